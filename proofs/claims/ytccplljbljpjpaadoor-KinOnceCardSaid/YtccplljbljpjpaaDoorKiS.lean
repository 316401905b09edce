/-
  Kin, in plain words: sums of needs; how often each place was met; the other order.
-/
import Derived.Test.YtccplljbljpjpaaDoorKiP
import Derived.Test.YtccplljbljpjpaaDoorKi3
namespace Go.Proofs.YtccplljbljpjpaaDoor
open Go.ChangeShapes Go.WideShapes Go.ChangeAt Go.RowKit
set_option linter.unusedVariables false
set_option linter.unusedSimpArgs false

theorem right_rt {p : Pd} (h : rightP p = true) : rtB p.n0 p.n1 p.n2 p.n3 p.n4 = true := by
  unfold rightP at h
  simp only [Bool.and_eq_true] at h
  exact h.1.1.1.1.1.1.1.1.1.1.1.2
/-- The plain sum. -/
def smP : List Pd → R5
  | [] => R5.z
  | p :: l => ⟨p.n0 + (smP l).r0, p.n1 + (smP l).r1, p.n2 + (smP l).r2, p.n3 + (smP l).r3, p.n4 + (smP l).r4⟩
def R5.pl (a b : R5) : R5 := ⟨a.r0 + b.r0, a.r1 + b.r1, a.r2 + b.r2, a.r3 + b.r3, a.r4 + b.r4⟩
def R5.lim (a : R5) : Prop := a.r0 ≤ 1125899906842624 ∧ a.r1 ≤ 1125899906842624 ∧ a.r2 ≤ 1125899906842624 ∧ a.r3 ≤ 1125899906842624 ∧ a.r4 ≤ 1125899906842624
instance (a : R5) : Decidable a.lim := by unfold R5.lim; infer_instance
def R5.pos (a : R5) : Prop := 0 ≤ a.r0 ∧ 0 ≤ a.r1 ∧ 0 ≤ a.r2 ∧ 0 ≤ a.r3 ∧ 0 ≤ a.r4
theorem smP_perm {a b : List Pd} (h : a.Perm b) : smP a = smP b := by
  induction h with
  | nil => rfl
  | cons x _ ih => unfold smP; rw [ih]
  | swap x y l =>
    show smP (y :: x :: l) = smP (x :: y :: l)
    unfold smP
    unfold smP
    rw [R5.mk.injEq]
    refine ⟨?_, ?_, ?_, ?_, ?_⟩ <;> (dsimp only; omega)
  | trans _ _ h1 h2 => exact h1.trans h2
theorem smP_append : ∀ (a b : List Pd), smP (a ++ b) = (smP a).pl (smP b)
  | [], b => by
    show smP b = _
    unfold R5.pl
    simp [smP, R5.z]
  | x :: a, b => by
    have e (l : List Pd) : smP (x :: l) = ⟨x.n0 + (smP l).r0, x.n1 + (smP l).r1, x.n2 + (smP l).r2, x.n3 + (smP l).r3, x.n4 + (smP l).r4⟩ := rfl
    rw [List.cons_append, e, e, smP_append a b]
    unfold R5.pl
    rw [R5.mk.injEq]
    refine ⟨?_, ?_, ?_, ?_, ?_⟩ <;> (dsimp only; omega)
theorem smP_pos : ∀ {l : List Pd}, (∀ p ∈ l, rightP p = true) → (smP l).pos
  | [], _ => by unfold smP R5.z R5.pos; decide
  | p :: l, h => by
    have ih := smP_pos (l := l) (fun q hq => h q (List.mem_cons_of_mem _ hq))
    have hp := (rtB_iff _ _ _ _ _).1 (right_rt (h p List.mem_cons_self))
    unfold R5.pos at ih ⊢
    unfold smP
    dsimp only
    omega
theorem addEP_ok {r : R5} {p : Pd} (hr : r.pos) (hl : r.lim) (hp : rightP p = true) : addEP r p = if (r.pl (smP [p])).lim then 0 else 10 := by
  have h1 : rtB r.r0 r.r1 r.r2 r.r3 r.r4 = true := (rtB_iff _ _ _ _ _).2 (by unfold R5.pos at hr; unfold R5.lim at hl; omega)
  unfold addEP Rs.addE
  rw [if_pos ⟨h1, right_rt hp⟩]
  unfold R5.lim R5.pl smP smP R5.z
  dsimp only
  simp only [Int.add_zero]
theorem sumP_sm : ∀ {l : List Pd} {r : R5}, (∀ p ∈ l, rightP p = true) → r.pos → r.lim → ((r.pl (smP l)).lim → sumP l 0 r = (0, r.pl (smP l))) ∧ (¬ (r.pl (smP l)).lim → sumP l 0 r = (10, R5.z))
  | [], r, _, hr, hl => by
    have e : r.pl (smP []) = r := by unfold R5.pl smP R5.z; simp
    rw [e]
    exact ⟨fun _ => rfl, fun h => absurd hl h⟩
  | p :: l, r, h, hr, hl => by
    have hp := (rtB_iff _ _ _ _ _).1 (right_rt (h p List.mem_cons_self))
    have hps := smP_pos (l := l) (fun q hq => h q (List.mem_cons_of_mem _ hq))
    have hE := addEP_ok hr hl (h p List.mem_cons_self)
    have e1 : r.pl (smP [p]) = ⟨r.r0 + p.n0, r.r1 + p.n1, r.r2 + p.n2, r.r3 + p.n3, r.r4 + p.n4⟩ := by unfold R5.pl smP smP R5.z; simp
    have e2 : r.pl (smP (p :: l)) = (r.pl (smP [p])).pl (smP l) := by
      rw [e1]
      unfold R5.pl
      rw [smP, R5.mk.injEq]
      refine ⟨?_, ?_, ?_, ?_, ?_⟩ <;> (dsimp only; omega)
    unfold sumP
    rw [if_pos rfl, e2]
    by_cases hk : (r.pl (smP [p])).lim
    · rw [if_pos hk] at hE
      have hA : addP r p = r.pl (smP [p]) := by rw [e1]; unfold addP; rw [hE]; rfl
      rw [hE, hA]
      refine sumP_sm (fun q hq => h q (List.mem_cons_of_mem _ hq)) ?_ hk
      rw [e1]
      unfold R5.pos at hr ⊢
      dsimp only
      omega
    · rw [if_neg hk] at hE
      have hA : addP r p = R5.z := by unfold addP; rw [hE]; rfl
      rw [hE, hA, sumP_err _ _ _ (by decide)]
      refine ⟨fun hh => absurd ?_ hk, fun _ => rfl⟩
      unfold R5.lim at hh ⊢
      unfold R5.pos at hps
      rw [e1] at hh ⊢
      unfold R5.pl at hh
      dsimp only at hh ⊢
      omega
theorem z_pl (r : R5) : R5.z.pl r = r := by unfold R5.pl R5.z; simp
theorem totK_yes {l : List Pd} (h : ∀ p ∈ l, rightP p = true) : ((smP l).lim → totK l = (0, smP l)) ∧ (¬ (smP l).lim → totK l = (10, R5.z)) := by
  unfold totK
  rw [if_pos (List.all_eq_true.2 h)]
  have := sumP_sm (r := R5.z) h (by unfold R5.pos R5.z; decide) (by unfold R5.lim R5.z; decide)
  rwa [z_pl] at this
theorem totK_perm {a b : List Pd} (h : a.Perm b) : totK a = totK b := by
  by_cases hr : ∀ p ∈ a, rightP p = true
  · have hb : ∀ p ∈ b, rightP p = true := fun p hp => hr p (h.mem_iff.2 hp)
    by_cases hl : (smP a).lim
    · rw [(totK_yes hr).1 hl, (totK_yes hb).1 (by rw [← smP_perm h]; exact hl), smP_perm h]
    · rw [(totK_yes hr).2 hl, (totK_yes hb).2 (by rw [← smP_perm h]; exact hl)]
  · have hb : ¬ ∀ p ∈ b, rightP p = true := fun hh => hr fun p hp => hh p (h.mem_iff.1 hp)
    unfold totK
    rw [if_neg (fun e => hr (List.all_eq_true.1 e)), if_neg (fun e => hb (List.all_eq_true.1 e))]
def addRE (r t : R5) : Int := Rs.addE r.r0 r.r1 r.r2 r.r3 r.r4 t.r0 t.r1 t.r2 t.r3 t.r4
def addR (r t : R5) : R5 := ⟨Rs.sel (addRE r t) (r.r0 + t.r0), Rs.sel (addRE r t) (r.r1 + t.r1), Rs.sel (addRE r t) (r.r2 + t.r2), Rs.sel (addRE r t) (r.r3 + t.r3), Rs.sel (addRE r t) (r.r4 + t.r4)⟩
/-- What is known of the sum of the lists so far. -/
structure SI (over : Bool) (r : R5) (done : List Pd) : Prop where
  no : over = false → r = smP done ∧ (smP done).lim
  yes : over = true → ¬ (smP done).lim
theorem SI.nil : SI false R5.z [] := ⟨fun _ => ⟨rfl, by unfold smP R5.lim R5.z; decide⟩, fun h => by cases h⟩
theorem SI.step {over : Bool} {r : R5} {done part : List Pd} (h : SI over r done) (hd : ∀ p ∈ done, rightP p = true) (hp : ∀ p ∈ part, rightP p = true) :
    SI (over || decide (¬ (totK part).1 = 0) || decide (¬ addRE r (totK part).2 = 0)) (addR r (totK part).2) (done ++ part) := by
  have p1 := smP_pos hd
  have p2 := smP_pos hp
  have ea := smP_append done part
  cases over with
  | true =>
    have hn := h.yes rfl
    refine ⟨fun e => by simp at e, fun _ hl => hn ?_⟩
    rw [ea] at hl
    unfold R5.pl R5.lim at hl
    unfold R5.lim
    unfold R5.pos at p2
    dsimp only at hl
    omega
  | false =>
    obtain ⟨rfl, hl⟩ := h.no rfl
    by_cases hk : (smP part).lim
    · rw [(totK_yes hp).1 hk]
      have hE : addRE (smP done) (smP part) = if ((smP done).pl (smP part)).lim then 0 else 10 := by
        have h1 : rtB (smP done).r0 (smP done).r1 (smP done).r2 (smP done).r3 (smP done).r4 = true := (rtB_iff _ _ _ _ _).2 (by unfold R5.pos at p1; unfold R5.lim at hl; omega)
        have h2 : rtB (smP part).r0 (smP part).r1 (smP part).r2 (smP part).r3 (smP part).r4 = true := (rtB_iff _ _ _ _ _).2 (by unfold R5.pos at p2; unfold R5.lim at hk; omega)
        unfold addRE Rs.addE
        rw [if_pos ⟨h1, h2⟩]
        rfl
      by_cases hs : ((smP done).pl (smP part)).lim
      · rw [if_pos hs] at hE
        have hA : addR (smP done) (smP part) = (smP done).pl (smP part) := by unfold addR; rw [hE]; rfl
        refine ⟨fun _ => ⟨by rw [hA, ea], by rw [ea]; exact hs⟩, fun e => ?_⟩
        rw [hE] at e
        simp at e
      · rw [if_neg hs] at hE
        refine ⟨fun e => ?_, fun _ => by rw [ea]; exact hs⟩
        rw [hE] at e
        simp at e
    · rw [(totK_yes hp).2 hk]
      refine ⟨fun e => by simp at e, fun _ hl2 => hk ?_⟩
      rw [ea] at hl2
      unfold R5.pl R5.lim at hl2
      unfold R5.lim
      unfold R5.pos at p1
      dsimp only at hl2
      omega
theorem SI.end {over : Bool} {r : R5} {done l : List Pd} (h : SI over r done) (hp : done.Perm l) (hr : ∀ p ∈ l, rightP p = true) : totK l = if over = true then (10, R5.z) else (0, r) := by
  cases over with
  | true =>
    have hn := h.yes rfl
    rw [if_pos rfl]
    exact (totK_yes hr).2 (by rw [← smP_perm hp]; exact hn)
  | false =>
    obtain ⟨rfl, hl⟩ := h.no rfl
    rw [if_neg Bool.false_ne_true, smP_perm hp]
    exact (totK_yes hr).1 (by rw [← smP_perm hp]; exact hl)
/-- How often each place was met. -/
def cntV (xs : List Int) (n : Nat) : List Value := (List.range n).map fun (m : Nat) => Value.int .i64 ((xs.count (m : Int) : Nat) : Int)
theorem cntV_at (xs : List Int) {n m : Nat} (h : m < n) : (cntV xs n)[m]? = some (.int .i64 ((xs.count (m : Int) : Nat) : Int)) := by
  unfold cntV
  rw [List.getElem?_map, List.getElem?_range h]
  rfl
theorem cntV_len (xs : List Int) (n : Nat) : (cntV xs n).length = n := by unfold cntV; simp
theorem cntV_set (xs : List Int) {n m : Nat} (h : m < n) : (cntV xs n).set m (.int .i64 (((xs.count (m : Int) : Nat) : Int) + 1)) = cntV (xs ++ [(m : Int)]) n := by
  refine List.ext_getElem? fun i => ?_
  by_cases hi : i < n
  · rw [cntV_at _ hi]
    by_cases hm : i = m
    · subst hm
      rw [List.getElem?_set_self (by rw [cntV_len]; exact h)]
      simp [List.count_append]
    · rw [List.getElem?_set_ne (fun e => hm e.symm), cntV_at _ hi]
      have : ¬ (m : Int) = (i : Int) := by omega
      simp [List.count_append, List.count_cons, this]
  · rw [List.getElem?_eq_none (by rw [List.length_set, cntV_len]; omega), List.getElem?_eq_none (by rw [cntV_len]; omega)]
theorem cntV_nil (n : Nat) : cntV [] n = List.replicate n (.int .i64 0) := by
  unfold cntV
  simp [List.map_const']
theorem twK_perm {a b : List ByteArray} (h : a.Perm b) : twK a = twK b := by
  have h1 := twK_no (N := a)
  have h2 := twK_no (N := b)
  have h3 := h.nodup_iff
  cases e1 : twK a <;> cases e2 : twK b
  · rfl
  · have := h2.2 (h3.1 (h1.1 e1)); rw [e2] at this; cases this
  · have := h1.2 (h3.2 (h2.1 e2)); rw [e1] at this; cases this
  · rfl
theorem grpK_back (l : List Pd) : (grpK l.reverse).1.length = (grpK l).1.length ∧ (grpK l.reverse).2 = (grpK l).2 := by
  unfold grpK
  rw [show l.reverse.all rightP = l.all rightP by rw [List.all_reverse], show twK (l.reverse.map Pd.nm) = twK (l.map Pd.nm) from twK_perm ((List.reverse_perm l).map _)]
  split
  · split
    · exact ⟨rfl, rfl⟩
    · refine ⟨?_, rfl⟩
      rw [List.map_reverse]
      exact grS_back _
  · exact ⟨rfl, rfl⟩
theorem totK_back (l : List Pd) : totK l.reverse = totK l := totK_perm (List.reverse_perm l)
end Go.Proofs.YtccplljbljpjpaaDoor
