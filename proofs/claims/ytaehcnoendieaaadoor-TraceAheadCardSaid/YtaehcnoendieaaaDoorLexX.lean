/-
  What the scanner's tokens are: brackets, words, texts; where they stand.
-/
import Derived.Test.YtaehcnoendieaaaDoorLexW
namespace Go.Proofs.YtaehcnoendieaaaDoor
open Go.RowKit
set_option linter.unusedVariables false
set_option linter.unusedSimpArgs false

instance : DecidablePred inWN := fun r => inferInstanceAs (Decidable (inW (r : Nat) = true))
instance : DecidablePred fineN := fun r => inferInstanceAs (Decidable (oddR (r : Nat) = false))
theorem cat_pos {P : Nat → Prop} : ∀ {c : List (List UInt8 × Nat)}, Chs P c → c.length ≤ (cat c).length
  | [], _ => Nat.le_refl _
  | (b, r) :: c, ⟨h1, _, h3⟩ => by
    have h2 : 0 < b.length := List.length_pos_iff.2 h1.ne
    have := cat_pos h3
    show c.length + 1 ≤ (b ++ cat c).length
    rw [List.length_append]
    omega
theorem wf_all {x : ByteArray} : ∀ (c : List (List UInt8 × Nat)) {pos f : Nat}, Chs inWN c → Sat x pos (cat c) → (cat c).length ≤ f → wordFrom x f pos = some c.length
  | [], pos, f, _, hS, _ => by
    have := hS.len
    rw [show (cat []).length = 0 from rfl] at this
    cases f with
    | zero => rfl
    | succ f => unfold wordFrom; rw [if_neg (by omega)]; rfl
  | (b, r) :: c, pos, f, ⟨h1, h2, h3⟩, hS, hf => by
    have hl : 0 < b.length := List.length_pos_iff.2 h1.ne
    have hS' : Sat x pos (b ++ cat c) := hS
    obtain ⟨d1, d2, d3⟩ := hS'.dec h1
    have hf' : b.length + (cat c).length ≤ f := by rw [← List.length_append]; exact hf
    obtain ⟨g, rfl⟩ : ∃ g, f = g + 1 := ⟨f - 1, by omega⟩
    unfold wordFrom
    rw [if_pos d1, d2, if_pos ⟨h2, d3⟩, wf_all c h3 hS'.next (by omega)]
    rfl
theorem wf_bad {x : ByteArray} : ∀ (c : List (List UInt8 × Nat)) {pos f : Nat} {t : List UInt8}, Chs inWN c → Sat x pos (cat c ++ t) → t ≠ [] → (badL t = true ∨ ∃ b r u, t = b ++ u ∧ Rn b r ∧ ¬ inWN r) → (cat c ++ t).length ≤ f → wordFrom x f pos = none
  | [], pos, f, t, _, hS, ht, hb, hf => by
    have hS' : Sat x pos t := hS
    have hl : 0 < t.length := List.length_pos_iff.2 ht
    have hf' : t.length ≤ f := hf
    obtain ⟨g, rfl⟩ : ∃ g, f = g + 1 := ⟨f - 1, by omega⟩
    obtain ⟨b1, b2⟩ := hS'.bad ht
    unfold wordFrom
    rw [if_pos b2]
    rcases hb with hb | ⟨b, r, u, e, h1, h2⟩
    · rw [if_neg (fun h => by rw [b1, hb] at h; exact absurd h.2 (by decide))]
    · rw [e] at hS'
      rw [(hS'.dec h1).2.1, if_neg (fun h => h2 h.1)]
  | (b, r) :: c, pos, f, t, ⟨h1, h2, h3⟩, hS, ht, hb, hf => by
    have hl : 0 < b.length := List.length_pos_iff.2 h1.ne
    have hS' : Sat x pos (b ++ (cat c ++ t)) := by rw [← List.append_assoc]; exact hS
    obtain ⟨d1, d2, d3⟩ := hS'.dec h1
    have hf' : b.length + (cat c ++ t).length ≤ f := by rw [← List.length_append, ← List.append_assoc]; exact hf
    obtain ⟨g, rfl⟩ : ∃ g, f = g + 1 := ⟨f - 1, by omega⟩
    unfold wordFrom
    rw [if_pos d1, d2, if_pos ⟨h2, d3⟩, wf_bad c h3 hS'.next ht hb (by omega)]
    rfl
theorem wordB_iff (x : ByteArray) : wordB x = true ↔ WordOk x := by
  have hs := toList_len x
  constructor
  · intro h
    unfold wordB at h
    have bad : ∀ (c : List (List UInt8 × Nat)) (t : List UInt8), Chs inWN c → x.toList = cat c ++ t → t ≠ [] → (badL t = true ∨ ∃ b r u, t = b ++ u ∧ Rn b r ∧ ¬ inWN r) → WordOk x := fun c t h1 h2 h3 h4 => by
      rw [wf_bad c h1 (h2 ▸ Sat.start x) h3 h4 (by rw [← h2]; omega)] at h
      cases h
    rcases chunks x.toList.length x.toList (Nat.le_refl _) with ⟨c, h1, h2⟩ | ⟨c, t, h1, h2, h3, h4⟩
    · rcases split_chs (P := inWN) h1 with h3 | ⟨a, b, r, d, h3, h4, h5, h6⟩
      · rw [wf_all c h3 (h2 ▸ Sat.start x) (by rw [← h2]; omega)] at h
        have h := of_decide_eq_true h
        exact ⟨c, h3, h.1, h.2, h2⟩
      · refine bad a (b ++ cat d) h3 (by rw [h2, h6, cat_app]; rfl) (by have := h4.ne; simp [this]) (.inr ⟨b, r, _, rfl, h4, h5⟩)
    · rcases split_chs (P := inWN) h1 with h5 | ⟨a, b, r, d, h5, h6, h7, h8⟩
      · exact bad c t h5 h4 h2 (.inl h3)
      · refine bad a (b ++ cat d ++ t) h5 (by rw [h4, h8, cat_app, List.append_assoc]; rfl) (by have := h6.ne; simp [this]) (.inr ⟨b, r, _, by rw [List.append_assoc], h6, h7⟩)
  · rintro ⟨c, h1, h2, h3, h4⟩
    unfold wordB
    rw [wf_all c h1 (h4 ▸ Sat.start x) (by rw [← h4]; omega)]
    exact decide_eq_true ⟨h2, h3⟩
def TkOk (t : Tk) : Prop := (t.kd = 1 ∧ t.tx = chB 40) ∨ (t.kd = 2 ∧ t.tx = chB 41) ∨ (t.kd = 3 ∧ WordOk t.tx) ∨ (t.kd = 4 ∧ TextOk t.tx)
/-- One place stands ahead of another one. -/
def Ahead (p l c p' l' c' : Int) : Prop := p < p' ∧ (l < l' ∨ (l = l' ∧ c < c'))
def tkAhead (a b : Tk) : Prop := Ahead a.po a.ln a.cl b.po b.ln b.cl
/-- What holds wherever the scanner stands. -/
structure SInv (src : ByteArray) (pos : Nat) (s : SC) : Prop where
  md : 0 ≤ s.md ∧ s.md ≤ 4
  le : pos ≤ src.size
  tk : ∀ t ∈ s.tk, TkOk t
  wd : s.md = 1 → ∃ (c : List (List UInt8 × Nat)) (p : Nat), s.cu.po = p ∧ p ≤ pos ∧ (src.toList.drop p).take (pos - p) = cat c ∧ Chs inWN c ∧ 1 ≤ c.length ∧ (c.length : Int) = s.ru ∧ c.length ≤ 64
  tx : s.md = 2 ∨ s.md = 3 → ∃ c, Chs fineN c ∧ s.ct = cat c
  pw : s.tk.Pairwise tkAhead
  ah : ∀ t ∈ s.tk, Ahead t.po t.ln t.cl pos s.ln s.cl
  cu : s.md = 1 ∨ s.md = 2 ∨ s.md = 3 → 0 ≤ s.cu.po ∧ Ahead s.cu.po s.cu.ln s.cu.cl pos s.ln s.cl ∧ ∀ t ∈ s.tk, tkAhead t s.cu
  es : s.md = 3 → 1 ≤ pos
theorem Ahead.step {p l c p' l' c' p'' l'' c'' : Int} (h : Ahead p l c p' l' c') (hp : p' ≤ p'') (hl : l' < l'' ∨ (l' = l'' ∧ c' ≤ c'')) : Ahead p l c p'' l'' c'' := by
  unfold Ahead at *
  omega
theorem adv_ahead (s : SC) (r : Int) : s.ln < (s.adv r).ln ∨ (s.ln = (s.adv r).ln ∧ s.cl < (s.adv r).cl) := by
  unfold SC.adv
  split
  · left; show s.ln < s.ln + 1; omega
  · right; exact ⟨rfl, by show s.cl < s.cl + 1; omega⟩
theorem adv_same (s : SC) (r : Int) : (s.adv r).md = s.md ∧ (s.adv r).tk = s.tk ∧ (s.adv r).cu = s.cu ∧ (s.adv r).ct = s.ct ∧ (s.adv r).ru = s.ru := by
  unfold SC.adv
  split <;> exact ⟨rfl, rfl, rfl, rfl, rfl⟩
/-- The state has been told all but the advance. -/
structure Mid (src : ByteArray) (pos w : Nat) (s : SC) : Prop where
  md : 0 ≤ s.md ∧ s.md ≤ 4
  tk : ∀ t ∈ s.tk, TkOk t
  wd : s.md = 1 → ∃ (c : List (List UInt8 × Nat)) (p : Nat), s.cu.po = p ∧ p ≤ pos ∧ (src.toList.drop p).take (pos + w - p) = cat c ∧ Chs inWN c ∧ 1 ≤ c.length ∧ (c.length : Int) = s.ru ∧ c.length ≤ 64
  tx : s.md = 2 ∨ s.md = 3 → ∃ c, Chs fineN c ∧ s.ct = cat c
  pw : s.tk.Pairwise tkAhead
  ah : ∀ t ∈ s.tk, t.po ≤ pos ∧ (t.ln < s.ln ∨ (t.ln = s.ln ∧ t.cl ≤ s.cl))
  cu : s.md = 1 ∨ s.md = 2 ∨ s.md = 3 → 0 ≤ s.cu.po ∧ (s.cu.po ≤ pos ∧ (s.cu.ln < s.ln ∨ (s.cu.ln = s.ln ∧ s.cu.cl ≤ s.cl))) ∧ ∀ t ∈ s.tk, tkAhead t s.cu
theorem Mid.adv {src : ByteArray} {pos w : Nat} {s : SC} (h : Mid src pos w s) (r : Int) (hw : 0 < w) (hp : pos + w ≤ src.size) : SInv src (pos + w) (s.adv r) := by
  obtain ⟨e1, e2, e3, e4, e5⟩ := adv_same s r
  have ha := adv_ahead s r
  refine ⟨by rw [e1]; exact h.md, hp, by rw [e2]; exact h.tk, ?_, ?_, by rw [e2]; exact h.pw, ?_, ?_, fun _ => by omega⟩
  · rw [e1, e3, e5]
    intro hm
    obtain ⟨c, p, q1, q2, q3⟩ := h.wd hm
    exact ⟨c, p, q1, by omega, q3⟩
  · rw [e1, e4]; exact h.tx
  · rw [e2]
    intro t ht
    have := h.ah t ht
    unfold Ahead
    omega
  · rw [e1, e2, e3]
    intro hm
    obtain ⟨q1, q2, q3⟩ := h.cu hm
    refine ⟨q1, ?_, q3⟩
    unfold Ahead
    omega
theorem pw_snoc {l : List Tk} {t : Tk} (h : l.Pairwise tkAhead) (h2 : ∀ x ∈ l, tkAhead x t) : (l ++ [t]).Pairwise tkAhead := by
  rw [List.pairwise_append]
  exact ⟨h, List.pairwise_singleton _ _, fun a ha b hb => by rw [List.mem_singleton.1 hb]; exact h2 a ha⟩
/-- What comes of a rune that begins. -/
theorem mid_begin {src : ByteArray} {pos : Nat} {b t : List UInt8} {r : Nat} {s s' : SC} {p : Int} (hS : Sat src pos (b ++ t)) (hr : Rn b r) (hm0 : s.md = 0) (htk : ∀ t ∈ s.tk, TkOk t) (hpw : s.tk.Pairwise tkAhead) (hah : ∀ t ∈ s.tk, Ahead t.po t.ln t.cl pos s.ln s.cl)
    (h : s.begin pos (r : Nat) = (s', 0, p)) : Mid src pos b.length s' := by
  have hself : ∀ (k : Int) (x : ByteArray), ∀ t ∈ (s.at pos).tk ++ [{ (s.at pos).cu with kd := k, tx := x }], t.po ≤ (pos : Int) ∧ (t.ln < s.ln ∨ (t.ln = s.ln ∧ t.cl ≤ s.cl)) := fun k x t ht => by
    rcases List.mem_append.1 ht with ht | ht
    · have := hah t ht
      unfold Ahead at this
      omega
    · rw [List.mem_singleton.1 ht]
      exact ⟨Int.le_refl _, .inr ⟨rfl, Int.le_refl _⟩⟩
  have hold : ∀ t ∈ s.tk, t.po ≤ (pos : Int) ∧ (t.ln < s.ln ∨ (t.ln = s.ln ∧ t.cl ≤ s.cl)) := fun t ht => by
    have := hah t ht
    unfold Ahead at this
    omega
  have hcu : 0 ≤ (s.at pos).cu.po ∧ ((s.at pos).cu.po ≤ pos ∧ ((s.at pos).cu.ln < s.ln ∨ ((s.at pos).cu.ln = s.ln ∧ (s.at pos).cu.cl ≤ s.cl))) ∧ ∀ t ∈ s.tk, tkAhead t (s.at pos).cu :=
    ⟨Int.natCast_nonneg _, ⟨Int.le_refl _, .inr ⟨rfl, Int.le_refl _⟩⟩, hah⟩
  unfold SC.begin at h
  split at h
  · obtain rfl := (Prod.mk.inj h).1
    refine ⟨(by show (0 : Int) ≤ 0 ∧ (0 : Int) ≤ 4; decide), fun t ht => ?_, fun e => (by cases e), fun e => (by rcases e with e | e <;> cases e), pw_snoc hpw hah, hself 1 _, fun e => (by rcases e with e | e | e <;> cases e)⟩
    rcases List.mem_append.1 ht with ht | ht
    · exact htk t ht
    · rw [List.mem_singleton.1 ht]; exact .inl ⟨rfl, rfl⟩
  split at h
  · obtain rfl := (Prod.mk.inj h).1
    refine ⟨(by show (0 : Int) ≤ 0 ∧ (0 : Int) ≤ 4; decide), fun t ht => ?_, fun e => (by cases e), fun e => (by rcases e with e | e <;> cases e), pw_snoc hpw hah, hself 2 _, fun e => (by rcases e with e | e | e <;> cases e)⟩
    rcases List.mem_append.1 ht with ht | ht
    · exact htk t ht
    · rw [List.mem_singleton.1 ht]; exact .inr (.inl ⟨rfl, rfl⟩)
  split at h
  · obtain rfl := (Prod.mk.inj h).1
    exact ⟨(by show (0 : Int) ≤ 2 ∧ (2 : Int) ≤ 4; decide), htk, fun e => (by cases e), fun _ => ⟨[], trivial, rfl⟩, hpw, hold, fun _ => hcu⟩
  split at h
  · obtain rfl := (Prod.mk.inj h).1
    exact ⟨(by show (0 : Int) ≤ 4 ∧ (4 : Int) ≤ 4; decide), htk, fun e => (by cases e), fun e => (by rcases e with e | e <;> cases e), hpw, hold, fun e => (by rcases e with e | e | e <;> cases e)⟩
  split at h
  · rename_i hw
    unfold SC.grow at h
    rw [if_neg (by show ¬ (64 : Int) < 0 + 1; decide)] at h
    obtain rfl := (Prod.mk.inj h).1
    refine ⟨(by show (0 : Int) ≤ 1 ∧ (1 : Int) ≤ 4; decide), htk, fun _ => ⟨[(b, r)], pos, rfl, Nat.le_refl _, ?_, ⟨hr, hw, trivial⟩, Nat.le_refl _, rfl, (by show 1 ≤ 64; decide)⟩, fun e => (by rcases e with e | e <;> cases e), hpw, hold, fun _ => hcu⟩
    rw [hS.d, Nat.add_sub_cancel_left, List.take_left]
    show b = b ++ []
    rw [List.append_nil]
  split at h
  · obtain rfl := (Prod.mk.inj h).1
    have h0 : (s.at pos).md = 0 := hm0
    exact ⟨(by rw [h0]; decide), htk, fun e => (by rw [h0] at e; cases e), fun e => (by rw [h0] at e; rcases e with e | e <;> cases e), hpw, hold, fun e => (by rw [h0] at e; rcases e with e | e | e <;> cases e)⟩
  · have := (Prod.mk.inj (Prod.mk.inj h).2).1
    cases this
/-- One rune keeps it. -/
theorem SInv.step {src : ByteArray} {pos : Nat} {s s' : SC} {p : Int} (hI : SInv src pos s) (hp : pos < src.size) (h : s.step src pos ((Utf8.decode src pos).1 : Nat) = (s', 0, p)) : SInv src (pos + (Utf8.decode src pos).2) (s'.adv ((Utf8.decode src pos).1 : Nat)) := by
  obtain ⟨l, hl⟩ : ∃ l, src.toList.drop pos = l := ⟨_, rfl⟩
  have hS : Sat src pos l := ⟨hl, by omega⟩
  have hlen := hS.len
  have hne : l ≠ [] := fun e => by rw [e, List.length_nil] at hlen; omega
  have hdd := decode_drop src pos hp
  rw [hl] at hdd
  have hold : ∀ t ∈ s.tk, t.po ≤ (pos : Int) ∧ (t.ln < s.ln ∨ (t.ln = s.ln ∧ t.cl ≤ s.cl)) := fun t ht => by
    have := hI.ah t ht
    unfold Ahead at this
    omega
  have hcu : s.md = 1 ∨ s.md = 2 ∨ s.md = 3 → 0 ≤ s.cu.po ∧ (s.cu.po ≤ (pos : Int) ∧ (s.cu.ln < s.ln ∨ (s.cu.ln = s.ln ∧ s.cu.cl ≤ s.cl))) ∧ ∀ t ∈ s.tk, tkAhead t s.cu := fun hm => by
    obtain ⟨q1, q2, q3⟩ := hI.cu hm
    unfold Ahead at q2
    exact ⟨q1, by omega, q3⟩
  by_cases h3 : s.md = 3
  · -- an escape
    have h1 := hcu (.inr (.inr h3))
    obtain ⟨c, hc, hct⟩ := hI.tx (.inr h3)
    have hw := decode_pos src pos hp
    have key : ∀ x : UInt8, x.toNat < 128 → fineN x.toNat → s' = { s with ct := s.ct ++ [x], md := 2 } → ((Utf8.decode src pos).1 < 128 → (Utf8.decode src pos).2 = 1) → (Utf8.decode src pos).1 < 128 → SInv src (pos + (Utf8.decode src pos).2) (s'.adv ((Utf8.decode src pos).1 : Nat)) := fun x hx hf e hk h128 => by
      rw [e]
      refine Mid.adv (s := { s with ct := s.ct ++ [x], md := 2 }) (w := (Utf8.decode src pos).2) ⟨(by show (0 : Int) ≤ 2 ∧ (2 : Int) ≤ 4; decide), hI.tk, fun e => (by cases e), fun _ => ⟨c ++ [([x], x.toNat)], hc.app ⟨Rn.one x hx, hf, trivial⟩, ?_⟩, hI.pw, hold, fun _ => h1⟩ _ hw ?_
      · rw [cat_app]
        show s.ct ++ [x] = cat c ++ ([x] ++ [])
        rw [hct]
        rfl
      · rw [hk h128]; omega
    have hsm : (Utf8.decode src pos).1 < 128 → (Utf8.decode src pos).2 = 1 := fun hk => by
      rw [hdd] at hk ⊢
      cases l with
      | nil => exact absurd rfl hne
      | cons b u =>
        rcases dec_cases (u.length + 1) 0 b.toNat (u.getD 0 0).toNat (u.getD 1 0).toNat (u.getD 2 0).toNat with ⟨q, e⟩ | ⟨_, _, q, e⟩ | ⟨_, _, _, q, e⟩ | ⟨_, _, _, _, q, e⟩ | ⟨_, e⟩
        all_goals
          have e' : decL (b :: u) = _ := e
          rw [e'] at hk
          first | (rw [e']; done) | exact absurd hk (by show ¬ (_ : Nat) < 128; omega)
    rw [step_esc h3] at h
    unfold SC.esc at h
    split at h
    · exact key 10 (by decide) (by unfold fineN; decide) (Prod.mk.inj h).1.symm hsm (by omega)
    split at h
    · exact key 34 (by decide) (by unfold fineN; decide) (Prod.mk.inj h).1.symm hsm (by omega)
    split at h
    · exact key 92 (by decide) (by unfold fineN; decide) (Prod.mk.inj h).1.symm hsm (by omega)
    · have := (Prod.mk.inj (Prod.mk.inj h).2).1
      cases this
  · by_cases hb : badAt src pos = true
    · unfold SC.step at h
      rw [if_neg h3, if_pos hb] at h
      have := (Prod.mk.inj (Prod.mk.inj h).2).1
      cases this
    · have hbl : badL l = false := by
        rw [← (hS.bad hne).1]
        simpa using hb
      obtain ⟨hr, hle, hw⟩ := Rn.head hne hbl
      rw [← hdd] at hr hle hw
      obtain ⟨b, hbe⟩ : ∃ b, l.take (Utf8.decode src pos).2 = b := ⟨_, rfl⟩
      rw [hbe] at hr
      have hlb : b.length = (Utf8.decode src pos).2 := by rw [← hbe, List.length_take]; omega
      have hSb : Sat src pos (b ++ l.drop (Utf8.decode src pos).2) := by rw [← hbe, List.take_append_drop]; exact hS
      obtain ⟨r, hre⟩ : ∃ r, (Utf8.decode src pos).1 = r := ⟨_, rfl⟩
      rw [hre] at h hr ⊢
      rw [← hlb]
      have fin : Mid src pos b.length s' → SInv src (pos + b.length) (s'.adv (r : Nat)) := fun hm => hm.adv _ (by omega) (by have := hSb.len; rw [List.length_append] at this; omega)
      refine fin ?_
      unfold SC.step at h
      rw [if_neg h3, if_neg hb] at h
      split at h
      · -- a remark
        rename_i h4
        split at h
        · obtain rfl := (Prod.mk.inj h).1
          exact ⟨(by show (0 : Int) ≤ 0 ∧ (0 : Int) ≤ 4; decide), hI.tk, fun e => (by cases e), fun e => (by rcases e with e | e <;> cases e), hI.pw, hold, fun e => (by rcases e with e | e | e <;> cases e)⟩
        · obtain rfl := (Prod.mk.inj h).1
          exact ⟨hI.md, hI.tk, fun e => (by rw [h4] at e; cases e), fun e => (by rw [h4] at e; rcases e with e | e <;> cases e), hI.pw, hold, fun e => (by rw [h4] at e; rcases e with e | e | e <;> cases e)⟩
      split at h
      · -- a text
        rename_i h4 h2
        obtain ⟨c, hc, hct⟩ := hI.tx (.inl h2)
        have h1 := hcu (.inr (.inl h2))
        unfold SC.inside at h
        split at h
        · obtain rfl := (Prod.mk.inj h).1
          refine ⟨(by show (0 : Int) ≤ 0 ∧ (0 : Int) ≤ 4; decide), fun t ht => ?_, fun e => (by cases e), fun e => (by rcases e with e | e <;> cases e), pw_snoc hI.pw h1.2.2, fun t ht => ?_, fun e => (by rcases e with e | e | e <;> cases e)⟩
          · rcases List.mem_append.1 ht with ht | ht
            · exact hI.tk t ht
            · rw [List.mem_singleton.1 ht]
              exact .inr (.inr (.inr ⟨rfl, c, hc, by rw [← hct]; exact toB_list _⟩))
          · rcases List.mem_append.1 ht with ht | ht
            · exact hold t ht
            · rw [List.mem_singleton.1 ht]
              exact h1.2.1
        split at h
        · obtain rfl := (Prod.mk.inj h).1
          exact ⟨(by show (0 : Int) ≤ 3 ∧ (3 : Int) ≤ 4; decide), hI.tk, fun e => (by cases e), fun _ => ⟨c, hc, hct⟩, hI.pw, hold, fun _ => h1⟩
        split at h
        · have := (Prod.mk.inj (Prod.mk.inj h).2).1
          cases this
        · rename_i n1 n2 n3
          obtain rfl := (Prod.mk.inj h).1
          refine ⟨hI.md, hI.tk, fun e => (by rw [h2] at e; cases e), fun _ => ⟨c ++ [(b, r)], hc.app ⟨hr, by unfold fineN; simpa using n3, trivial⟩, ?_⟩, hI.pw, hold, fun _ => h1⟩
          rw [cat_app]
          show s.ct ++ (src.extract pos (pos + (Utf8.decode src pos).2)).toList = cat c ++ (b ++ [])
          rw [← hlb, hSb.ext, hct, List.append_nil]
      split at h
      · -- a word
        rename_i h4 h2 h1
        obtain ⟨c, q, w1, w2, w3, w4, w5, w6, w7⟩ := hI.wd h1
        have hcu1 := hcu (.inl h1)
        split at h
        · rename_i hin
          unfold SC.grow at h
          split at h
          · have := (Prod.mk.inj (Prod.mk.inj h).2).1
            cases this
          · rename_i hg
            obtain rfl := (Prod.mk.inj h).1
            refine ⟨hI.md, hI.tk, fun _ => ⟨c ++ [(b, r)], q, w1, w2, ?_, w4.app ⟨hr, hin, trivial⟩, by rw [List.length_append]; omega, ?_, ?_⟩, fun e => (by rw [show s.md = 1 from h1] at e; rcases e with e | e <;> cases e), hI.pw, hold, fun _ => hcu1⟩
            · rw [cat_app, ← w3]
              show _ = _ ++ (b ++ [])
              rw [List.append_nil]
              have e1 : pos + b.length - q = (pos - q) + b.length := by omega
              have e2 : (src.toList.drop q).drop (pos - q) = b ++ l.drop (Utf8.decode src pos).2 := by rw [List.drop_drop, show q + (pos - q) = pos by omega]; exact hSb.d
              rw [e1, List.take_add, e2, List.take_left]
            · show ((c ++ [(b, r)]).length : Int) = s.ru + 1
              rw [List.length_append, ← w6]
              rfl
            · rw [List.length_append]
              show c.length + 1 ≤ 64
              omega
        · refine mid_begin (s := s.endW src pos) hSb hr rfl (fun t ht => ?_) (pw_snoc hI.pw hcu1.2.2) (fun t ht => ?_) h
          · rcases List.mem_append.1 ht with ht | ht
            · exact hI.tk t ht
            · rw [List.mem_singleton.1 ht]
              refine .inr (.inr (.inl ⟨rfl, c, w4, w5, w7, ?_⟩))
              show (src.extract s.cu.po.toNat ((pos : Nat) : Int).toNat).toList = cat c
              rw [ext_list, w1]
              exact w3
          · rcases List.mem_append.1 ht with ht | ht
            · exact hI.ah t ht
            · rw [List.mem_singleton.1 ht]
              exact (hI.cu (.inl h1)).2.1
      · rename_i h4 h2 h1
        exact mid_begin hSb hr (by have := hI.md; omega) hI.tk hI.pw hI.ah h
/-- What comes of all: tokens that are right, one ahead of the other; errors lie within. -/
theorem scan_inv {src : ByteArray} : ∀ (n pos : Nat) (s : SC), src.size - pos ≤ n → SInv src pos s → (∀ t ∈ (scanAt src pos s).1, TkOk t) ∧ (scanAt src pos s).1.Pairwise tkAhead ∧ ((scanAt src pos s).2.1 ≠ 0 → (scanAt src pos s).1 = [] ∧ 0 ≤ (scanAt src pos s).2.2 ∧ (scanAt src pos s).2.2 ≤ src.size) := by
  have atend : ∀ (pos : Nat) (s : SC), src.size ≤ pos → SInv src pos s → (∀ t ∈ (scanAt src pos s).1, TkOk t) ∧ (scanAt src pos s).1.Pairwise tkAhead ∧ ((scanAt src pos s).2.1 ≠ 0 → (scanAt src pos s).1 = [] ∧ 0 ≤ (scanAt src pos s).2.2 ∧ (scanAt src pos s).2.2 ≤ src.size) := fun pos s hp hI => by
    have hps : pos = src.size := by have := hI.le; omega
    rw [scanAt_end hp]
    unfold SC.fin
    split
    · rename_i h1
      obtain ⟨c, q, w1, w2, w3, w4, w5, w6, w7⟩ := hI.wd h1
      refine ⟨fun t ht => ?_, pw_snoc hI.pw (hI.cu (.inl h1)).2.2, fun h => absurd rfl h⟩
      have ht : t ∈ s.tk ++ [_] := ht
      rcases List.mem_append.1 ht with ht | ht
      · exact hI.tk t ht
      · rw [List.mem_singleton.1 ht]
        refine .inr (.inr (.inl ⟨rfl, c, w4, w5, w7, ?_⟩))
        show (src.extract s.cu.po.toNat ((src.size : Nat) : Int).toNat).toList = cat c
        rw [ext_list, w1, ← hps]
        exact w3
    split
    · rename_i h1 h2
      obtain ⟨q1, q2, _⟩ := hI.cu (.inr (.inl h2))
      unfold Ahead at q2
      exact ⟨fun t ht => (by cases ht), List.Pairwise.nil, fun _ => ⟨rfl, q1, by show s.cu.po ≤ _; omega⟩⟩
    split
    · rename_i h1 h2 h3
      have := hI.es h3
      exact ⟨fun t ht => (by cases ht), List.Pairwise.nil, fun _ => ⟨rfl, by show 0 ≤ (src.size : Int) - 1; omega, by show (src.size : Int) - 1 ≤ _; omega⟩⟩
    · exact ⟨hI.tk, hI.pw, fun h => absurd rfl h⟩
  intro n
  induction n with
  | zero => exact fun pos s hn hI => atend pos s (by omega) hI
  | succ n ih =>
    intro pos s hn hI
    by_cases hp : pos < src.size
    · obtain ⟨⟨s', e, p⟩, hst⟩ : ∃ q, s.step src pos ((Utf8.decode src pos).1 : Nat) = q := ⟨_, rfl⟩
      by_cases he : e = 0
      · subst he
        rw [scanAt_go hp hst]
        have := decode_pos src pos hp
        exact ih _ _ (by omega) (hI.step hp hst)
      · rw [scanAt_err hp hst he]
        refine ⟨fun t ht => (by cases ht), List.Pairwise.nil, fun _ => ⟨rfl, ?_⟩⟩
        show 0 ≤ p ∧ p ≤ src.size
        have bg : ∀ (s2 : SC) (r : Int), s2.begin pos r = (s', e, p) → 0 ≤ p ∧ p ≤ src.size := fun s2 r hb => by
          unfold SC.begin at hb
          split at hb
          · exact absurd (Prod.mk.inj (Prod.mk.inj hb).2).1.symm he
          split at hb
          · exact absurd (Prod.mk.inj (Prod.mk.inj hb).2).1.symm he
          split at hb
          · exact absurd (Prod.mk.inj (Prod.mk.inj hb).2).1.symm he
          split at hb
          · exact absurd (Prod.mk.inj (Prod.mk.inj hb).2).1.symm he
          split at hb
          · unfold SC.grow at hb
            rw [if_neg (by show ¬ (64 : Int) < 0 + 1; decide)] at hb
            exact absurd (Prod.mk.inj (Prod.mk.inj hb).2).1.symm he
          split at hb
          · exact absurd (Prod.mk.inj (Prod.mk.inj hb).2).1.symm he
          · have := (Prod.mk.inj (Prod.mk.inj hb).2).2
            omega
        unfold SC.step at hst
        split at hst
        · rename_i h3
          have h9 := hI.es h3
          unfold SC.esc at hst
          split at hst
          · exact absurd (Prod.mk.inj (Prod.mk.inj hst).2).1.symm he
          split at hst
          · exact absurd (Prod.mk.inj (Prod.mk.inj hst).2).1.symm he
          split at hst
          · exact absurd (Prod.mk.inj (Prod.mk.inj hst).2).1.symm he
          · have := (Prod.mk.inj (Prod.mk.inj hst).2).2
            omega
        split at hst
        · have := (Prod.mk.inj (Prod.mk.inj hst).2).2
          omega
        split at hst
        · split at hst
          · exact absurd (Prod.mk.inj (Prod.mk.inj hst).2).1.symm he
          · exact absurd (Prod.mk.inj (Prod.mk.inj hst).2).1.symm he
        split at hst
        · unfold SC.inside at hst
          split at hst
          · exact absurd (Prod.mk.inj (Prod.mk.inj hst).2).1.symm he
          split at hst
          · exact absurd (Prod.mk.inj (Prod.mk.inj hst).2).1.symm he
          split at hst
          · have := (Prod.mk.inj (Prod.mk.inj hst).2).2
            omega
          · exact absurd (Prod.mk.inj (Prod.mk.inj hst).2).1.symm he
        split at hst
        · rename_i h1
          split at hst
          · unfold SC.grow at hst
            split at hst
            · have h8 := (Prod.mk.inj (Prod.mk.inj hst).2).2
              obtain ⟨q1, q2, _⟩ := hI.cu (.inl h1)
              unfold Ahead at q2
              omega
            · exact absurd (Prod.mk.inj (Prod.mk.inj hst).2).1.symm he
          · exact bg _ _ hst
        · exact bg _ _ hst
    · exact atend pos s (by omega) hI
theorem SInv.start (src : ByteArray) : SInv src 0 sc0 :=
  ⟨(by decide), Nat.zero_le _, fun t ht => (by cases ht), fun e => (by cases e), fun e => (by rcases e with e | e <;> cases e), List.Pairwise.nil, fun t ht => (by cases ht), fun e => (by rcases e with e | e | e <;> cases e), fun e => by cases e⟩
theorem scanB_inv {src : ByteArray} (h : src.size ≤ 65536) : (∀ t ∈ (scanB src).1, TkOk t) ∧ (scanB src).1.Pairwise tkAhead ∧ ((scanB src).2.1 ≠ 0 → (scanB src).1 = [] ∧ 0 ≤ (scanB src).2.2 ∧ (scanB src).2.2 ≤ src.size) := by
  rw [scanB_at h]
  exact scan_inv _ 0 sc0 (Nat.le_refl _) (SInv.start src)
end Go.Proofs.YtaehcnoendieaaaDoor
