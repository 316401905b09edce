/-
  Yards in plain words.
-/
import Derived.Test.YtkmhicoimgpdlaaNH
import Derived.Test.YtkmhicoimgpdlaaResNG
namespace Go.Proofs.Ytkmhicoimgpdlaa
open Go.RowKit
set_option linter.unusedVariables false
set_option linter.unusedSimpArgs false

theorem K9.range {w : World} {B : Nat} (h : K9 w B) : w.rangeAt (B + 1) 0 [.string ⟨#[109]⟩, .string ⟨#[]⟩, .int .i64 1000, .int .i64 0, .int .i64 0, .int .i64 3, .int .i64 0, .slice (some ⟨B, 0, none⟩) 1 1, .slice none 0 0, .bool true] ∧ B + 1 < w.heap.size := by
  obtain ⟨b, o, e, hb, hc⟩ := h.ms (Nat.succ_pos _)
  injection e with e
  injection e with e1 e2
  subst e1 e2
  refine ⟨fun j v hj => ?_, hb⟩
  have hj10 : j < 10 := (List.getElem?_eq_some_iff.1 hj).1
  have h9 := hc 0 (mK1 B) rfl j hj10
  rw [Nat.zero_mul, Nat.add_zero] at h9
  exact h9.trans hj
theorem ya_used (w : World) (B : Nat) (h : K9 w B) : Calls Try.prog 28 #[.slice (some ⟨B + 2, 0, none⟩) 2 2, .string ⟨#[109]⟩] w fun e w' => e = .returned (.tuple #[.agg #[.int .i64 300, .int .i64 0, .int .i64 0, .int .i64 1, .int .i64 0], .int .i64 0]) ∧ Below w.heap.size w w' := by
  have h9 := used_any (some ⟨B + 2, 0, none⟩) 2 [bK1, bK2] ⟨#[109]⟩ w h.bs (by decide)
  rw [k_used] at h9
  exact h9
theorem ya_on (w : World) (B : Nat) (h : K9 w B) : Calls Try.prog 34 #[.slice (some ⟨B + 2, 0, none⟩) 2 2, .string ⟨#[109]⟩] w fun e w' => (∃ a k, e = .returned (.slice a 1 k)) ∧ Below w.heap.size w w' :=
  (on_any (some ⟨B + 2, 0, none⟩) 2 [bK1, bK2] ⟨#[109]⟩ w h.bs (by decide)).mono fun e w' h9 => by
    obtain ⟨⟨v, rfl, ho⟩, hb⟩ := h9
    rw [k_on] at ho
    obtain ⟨a, k, rfl⟩ := own_sl ho
    exact ⟨⟨a, k, rfl⟩, hb⟩
theorem ya_tx (w : World) (a b : Option Addr) (ka : Nat) (hF : TxtL w a [⟨#[97]⟩]) (hG : TxtL w b [⟨#[97]⟩]) : Calls Try.prog 20 #[.slice a 1 ka, .slice b 1 1] w fun e w' => e = .returned (.bool true) ∧ Below w.heap.size w w' := by
  have h := texts_any a b ka 1 [⟨#[97]⟩] [⟨#[97]⟩] w hF hG (by decide) (by decide)
  rw [decide_eq_true rfl] at h
  exact h
structure KU (w0 w : World) (B q : Nat) : Prop where
  k : K9 w B
  u : Blk w q 31 [.int .i64 300, .int .i64 0, .int .i64 0, .int .i64 1, .int .i64 0]
  bl : Below w0.heap.size w0 w
theorem KU.mono {w0 w w' : World} {B q : Nat} (h : KU w0 w B q) (hb : Below w.heap.size w w') : KU w0 w' B q := ⟨h.k.mono hb, h.u.below hb, h.bl.trans (hb.mono h.bl.size)⟩

theorem findN_le : ∀ (l : List ByteArray) (x : ByteArray) (i k : Nat), l[i]? = some x → (k : Int) ≤ findN l x k ∧ findN l x k ≤ k + i
  | [], x, i, k, h => by simp at h
  | y :: l, x, 0, k, h => by
    obtain rfl : y = x := by simpa using h
    unfold findN
    rw [if_pos rfl]
    omega
  | y :: l, x, i + 1, k, h => by
    have h9 := findN_le l x i (k + 1) (by simpa using h)
    unfold findN
    split <;> omega
theorem findN_mem : ∀ (l : List ByteArray) (x : ByteArray) (k : Nat), 0 ≤ findN l x k → x ∈ l
  | [], x, k, h => by unfold findN at h; omega
  | y :: l, x, k, h => by
    unfold findN at h
    split at h
    · rename_i e; rw [e]; exact List.mem_cons_self
    · exact List.mem_cons_of_mem _ (findN_mem l x (k + 1) h)
theorem find_once {N : List ByteArray} (h : twiceN N = false) {i : Nat} {x : ByteArray} (hx : N[i]? = some x) : findN N x 0 = i := by
  unfold twiceN at h
  rw [List.any_eq_false] at h
  obtain ⟨hi, hv⟩ := List.getElem?_eq_some_iff.1 hx
  have h1 := h i (List.mem_range.2 hi)
  have h2 : N.getD i emp = x := by rw [List.getD_eq_getElem?_getD, hx]; rfl
  rw [h2] at h1
  have h3 := (findN_le N x i 0 hx).2
  simp only [decide_eq_true_eq] at h1
  omega
theorem once_take {N : List ByteArray} (h : twiceN N = false) {i : Nat} {x : ByteArray} (hx : N[i]? = some x) : x ∉ N.take i := fun hm => by
  obtain ⟨j, hj⟩ := List.mem_iff_getElem?.1 hm
  rw [List.getElem?_take] at hj
  split at hj
  · rename_i hji
    have h1 := find_once h hx
    have h2 := find_once h hj
    omega
  · cases hj
theorem filt_or {p q : Bd → Bool} : ∀ {l : List Bd}, (∀ b ∈ l, p b = true → q b = true → False) → (l.filter fun b => p b || q b).length = (l.filter p).length + (l.filter q).length
  | [], _ => rfl
  | b :: l, h => by
    have ih := filt_or (p := p) (q := q) (l := l) fun c hc => h c (List.mem_cons_of_mem _ hc)
    have hb := h b List.mem_cons_self
    rw [List.filter_cons, List.filter_cons, List.filter_cons]
    cases hp : p b <;> cases hq : q b <;> simp [hp, hq] at hb ⊢ <;> omega
def inT (N : List ByteArray) (k : Nat) (b : Bd) : Bool := decide (b.on = emp) || (N.take k).any fun y => decide (b.on = y)
def cntF (N : List ByteArray) (bs : List Bd) (k : Nat) : Nat := (bs.filter (inT N k)).length
theorem inT_iff (N : List ByteArray) (k : Nat) (b : Bd) : inT N k b = true ↔ b.on = emp ∨ b.on ∈ N.take k := by
  unfold inT
  rw [Bool.or_eq_true, decide_eq_true_eq, List.any_eq_true]
  constructor
  · rintro (h | ⟨y, hy, h⟩)
    · exact .inl h
    · rw [decide_eq_true_eq] at h
      exact .inr (h ▸ hy)
  · rintro (h | h)
    · exact .inl h
    · exact .inr ⟨_, h, decide_eq_true rfl⟩
theorem cnt_start (N : List ByteArray) (bs : List Bd) : (onL bs emp).length = cntF N bs 0 := by
  unfold onL cntF
  rw [List.length_map]
  congr 2
  funext b
  unfold isOn inT
  rw [List.take_zero, List.any_nil, Bool.or_false]
theorem cnt_next {N : List ByteArray} (bs : List Bd) {k : Nat} {x : ByteArray} (hx : N[k]? = some x) (h0 : x ≠ emp) (h1 : x ∉ N.take k) : cntF N bs (k + 1) = cntF N bs k + (onL bs x).length := by
  unfold onL cntF
  rw [List.length_map, ← filt_or]
  · congr 2
    funext b
    unfold isOn inT
    rw [List.take_add_one, hx]
    simp only [Option.toList, List.any_append, List.any_cons, List.any_nil, Bool.or_false, Bool.or_assoc]
  · intro b _ hp hq
    rw [inT_iff] at hp
    unfold isOn at hq
    rw [decide_eq_true_eq] at hq
    rw [hq] at hp
    rcases hp with hp | hp
    · exact h0 hp
    · exact h1 hp
theorem cnt_all {N : List ByteArray} {bs : List Bd} (h : ∀ b ∈ bs, b.on = emp ∨ b.on ∈ N) : cntF N bs N.length = bs.length := by
  unfold cntF
  rw [List.filter_eq_self.2]
  intro b hb
  rw [inT_iff, List.take_length]
  exact h b hb
theorem check_zero {ms : List Mac} {bs : List Bd} (h : checkY ms bs = 0) : ms.length ≤ 200 ∧ ms.all okM = true ∧ twiceN (ms.map Mac.nm) = false ∧ bs.all (onB (ms.map Mac.nm)) = true ∧ checkY ms [] = 0 := by
  unfold checkY at h
  split at h
  · omega
  · rename_i h1
    split at h
    · omega
    · rename_i h2
      split at h
      · omega
      · rename_i h3
        split at h
        · omega
        · rename_i h4
          have h2' : ms.all okM = true ∧ bs.all okBd = true := Decidable.not_not.1 h2
          have h4' := Decidable.not_not.1 h4
          have h3' : twiceN (ms.map Mac.nm) = false := by
            cases ht : twiceN (ms.map Mac.nm)
            · rfl
            · exact absurd (.inl ht) h3
          refine ⟨by omega, h2'.1, h3', h4', ?_⟩
          unfold checkY
          rw [if_neg (by simp; omega), if_neg (by simp [h2'.1]), if_neg (by rw [h3']; decide), if_neg (by simp)]
def rt5 (r : R5) : Bool := rtB r.r0 r.r1 r.r2 r.r3 r.r4
theorem addP_right (r : R5) (p : Pd) : rt5 (addP r p) = true := by
  unfold rt5 addP
  by_cases h : addEP r p = 0
  · rw [h]
    simp only [Rs.sel_0]
    unfold addEP Rs.addE at h
    split at h
    · rename_i h1
      split at h
      · rename_i h2
        have ha := (rtB_iff _ _ _ _ _).1 h1.1
        have hb := (rtB_iff _ _ _ _ _).1 h1.2
        rw [rtB_iff]
        omega
      · omega
    · omega
  · simp only [Rs.sel_no _ _ h]
    decide
theorem usB_right (nm : ByteArray) : ∀ (l : List Bd) (e : Int) (r : R5), rt5 r = true → (usB nm l e r).1 = 0 → rt5 (usB nm l e r).2 = true
  | [], e, r, h, _ => h
  | b :: l, e, r, h, h0 => by
    unfold usB at h0 ⊢
    split
    · rename_i h1
      rw [if_pos h1] at h0
      split
      · rename_i h2
        rw [if_pos h2] at h0
        split
        · rename_i h3
          rw [if_pos h3] at h0
          exact usB_right nm l _ _ (addP_right r b.p) h0
        · rename_i h3
          rw [if_neg h3] at h0
          exact usB_right nm l e r h h0
      · rename_i h2
        rw [if_neg h2] at h0
        cases h0
    · rename_i h1
      rw [if_neg h1] at h0
      exact usB_right nm l e r h h0
theorem usedY_right {bs : List Bd} {nm : ByteArray} (h : (usedY bs nm).1 = 0) : rt5 (usedY bs nm).2 = true := usB_right nm bs 0 R5.z (by decide) h
/-- What is left of h where u is used: right, not more than h, and with u it is h, if u fits. -/
theorem left_plain {h u : R5} (hh : rt5 h = true) (hu : rt5 u = true) :
    subP h (lstP h u) = ⟨h.r0 - minI h.r0 u.r0, h.r1 - minI h.r1 u.r1, h.r2 - minI h.r2 u.r2, h.r3 - minI h.r3 u.r3, h.r4 - minI h.r4 u.r4⟩ := by
  have hl : lstP h u = ⟨minI h.r0 u.r0, minI h.r1 u.r1, minI h.r2 u.r2, minI h.r3 u.r3, minI h.r4 u.r4⟩ := by
    unfold lstP Rs.leastC
    unfold rt5 at hh hu
    simp only [hh, hu, and_self, if_true]
  rw [hl]
  have ha := (rtB_iff _ _ _ _ _).1 hh
  have hb := (rtB_iff _ _ _ _ _).1 hu
  have m0 := minI_le h.r0 u.r0
  have m1 := minI_le h.r1 u.r1
  have m2 := minI_le h.r2 u.r2
  have m3 := minI_le h.r3 u.r3
  have m4 := minI_le h.r4 u.r4
  have hz : subEP h ⟨minI h.r0 u.r0, minI h.r1 u.r1, minI h.r2 u.r2, minI h.r3 u.r3, minI h.r4 u.r4⟩ = 0 := by
    unfold subEP Rs.subE
    rw [if_pos ⟨hh, (rtB_iff _ _ _ _ _).2 (by dsimp only; omega)⟩, if_pos (by dsimp only; omega)]
  unfold subP
  rw [hz]
  rfl
end Go.Proofs.Ytkmhicoimgpdlaa
