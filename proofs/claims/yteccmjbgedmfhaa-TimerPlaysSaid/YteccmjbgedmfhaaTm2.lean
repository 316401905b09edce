/-
  Note: what is so is noted since the first time.
-/
import Derived.Test.YteccmjbgedmfhaaTm1
import Derived.Test.YteccmjbgedmfhaaRng
import Derived.Test.YteccmjbgedmfhaaTxtL
namespace Go.Proofs.Yteccmjbgedmfhaa
open Go.RowKit
set_option linter.unusedVariables false
set_option linter.unusedSimpArgs false

instance memDec (s : ByteArray) : (l : List ByteArray) → Decidable (s ∈ l)
  | [] => .isFalse (by simp)
  | x :: l => if h : s = x then .isTrue (by simp [h]) else
    match memDec s l with
    | .isTrue h' => .isTrue (by simp [h'])
    | .isFalse h' => .isFalse (by simp [h, h'])
theorem zero_unit (w : World) : (zeroValue 53).run Try.prog w = .ok (.agg #[]) w := by kernel_rfl
def noteT (T : ByteArray → Option Int) (l : List ByteArray) (now : Int) : ByteArray → Option Int := fun s => if s ∈ l then some ((T s).getD now) else none
def setF (l : List ByteArray) : ByteArray → Option Value := fun s => if s ∈ l then some (.agg #[]) else none
def keepF (T : ByteArray → Option Int) (l : List ByteArray) (left : Lit → Bool) : ByteArray → Option Value := fun s => if left (kyL s) = true ∨ s ∈ l then (T s).map iv else none
theorem set_step {l : List ByteArray} {k : Nat} {x : ByteArray} (h : l[k]? = some x) (s : ByteArray) : updF (setF (l.take k)) x (some (.agg #[])) s = setF (l.take (k + 1)) s := by
  unfold setF
  rw [take_at h]
  by_cases hs : s = x
  · subst hs; rw [updF_same]; simp
  · rw [updF_other hs]; simp [hs]
theorem set_get (l : List ByteArray) (s : ByteArray) : (setF l s).getD (.agg #[]) = .agg #[] := by
  unfold setF
  split <;> rfl
theorem set_some (l : List ByteArray) (s : ByteArray) : (setF l s).isSome = decide (s ∈ l) := by
  unfold setF
  by_cases h : s ∈ l <;> simp [h]
theorem keep_start (T : ByteArray → Option Int) (l : List ByteArray) (left : Lit → Bool) (h : ∀ s, left (kyL s) = ((T s).map iv).isSome) (s : ByteArray) : (T s).map iv = keepF T l left s := by
  unfold keepF
  by_cases h1 : left (kyL s) = true ∨ s ∈ l
  · rw [if_pos h1]
  · rw [if_neg h1]
    have h2 : left (kyL s) = false := by simpa using fun e => h1 (.inl e)
    rw [h s] at h2
    cases hT : (T s).map iv with
    | none => rfl
    | some v => rw [hT] at h2; cases h2
theorem keep_stays {T : ByteArray → Option Int} {l : List ByteArray} {left : Lit → Bool} {x : ByteArray} (hx : x ∈ l) (s : ByteArray) : keepF T l left s = keepF T l (fun z => left z && !z.sameKey (kyL x)) s := by
  unfold keepF
  by_cases hs : s = x
  · subst hs; simp [hx]
  · simp [same_key, hs]
theorem keep_struck {T : ByteArray → Option Int} {l : List ByteArray} {left : Lit → Bool} {x : ByteArray} (hx : ¬ x ∈ l) (s : ByteArray) : updF (keepF T l left) x none s = keepF T l (fun z => (left z && !z.sameKey (kyL x)) && !z.sameKey (kyL x)) s := by
  by_cases hs : s = x
  · subst hs; rw [updF_same]; simp [keepF, hx, same_key]
  · rw [updF_other hs]; simp [keepF, same_key, hs]
theorem keep_end {T : ByteArray → Option Int} {l : List ByteArray} {left : Lit → Bool} (h : ∀ kl, left kl = false) (s : ByteArray) : keepF T l left s = if s ∈ l then (T s).map iv else none := by
  simp [keepF, h]
/-- Behind k names. -/
def partT (T : ByteArray → Option Int) (l : List ByteArray) (now : Int) (k : Nat) : ByteArray → Option Int := fun s => if s ∈ l.take k then some ((T s).getD now) else if s ∈ l then T s else none
theorem part_0 (T : ByteArray → Option Int) (l : List ByteArray) (now : Int) (s : ByteArray) : (if s ∈ l then (T s).map iv else none) = (partT T l now 0 s).map iv := by
  simp only [partT, List.take_zero, List.not_mem_nil, if_false]
  split <;> rfl
theorem part_all (T : ByteArray → Option Int) (l : List ByteArray) (now : Int) (s : ByteArray) : partT T l now l.length s = noteT T l now s := by
  unfold partT noteT
  rw [List.take_length]
  by_cases h : s ∈ l <;> simp [h]
theorem part_put {T : ByteArray → Option Int} {l : List ByteArray} {now : Int} {k : Nat} {x : ByteArray} (h : l[k]? = some x) (hx : partT T l now k x = none) (s : ByteArray) : updF (fun s => (partT T l now k s).map iv) x (some (iv now)) s = (partT T l now (k + 1) s).map iv := by
  have hm : x ∈ l := List.mem_of_getElem? h
  have hT : T x = none := by
    unfold partT at hx
    by_cases h1 : x ∈ l.take k
    · rw [if_pos h1] at hx; cases hx
    · rw [if_neg h1, if_pos hm] at hx; exact hx
  unfold partT
  rw [take_at h]
  by_cases hs : s = x
  · subst hs; rw [updF_same]; simp [hT]
  · rw [updF_other hs]; simp [hs]
theorem part_has {T : ByteArray → Option Int} {l : List ByteArray} {now : Int} {k : Nat} {x : ByteArray} (h : l[k]? = some x) (hx : (partT T l now k x).isSome = true) (s : ByteArray) : partT T l now k s = partT T l now (k + 1) s := by
  have hm : x ∈ l := List.mem_of_getElem? h
  unfold partT at hx ⊢
  rw [take_at h]
  by_cases hs : s = x
  · subst hs
    by_cases h1 : s ∈ l.take k
    · simp [h1]
    · rw [if_neg h1, if_pos hm] at hx
      obtain ⟨v, hv⟩ := Option.isSome_iff_exists.1 hx
      simp [h1, hm, hv]
  · simp [hs]
theorem noteT_ok {T : ByteArray → Option Int} {l : List ByteArray} {now : Int} (h0 : 0 ≤ now) (h1 : now ≤ 1099511627776) (ok : ∀ s x, T s = some x → 0 ≤ x ∧ x ≤ 1099511627776) : ∀ s x, noteT T l now s = some x → 0 ≤ x ∧ x ≤ 1099511627776 := by
  intro s x hx
  unfold noteT at hx
  split at hx
  · cases hT : T s with
    | none => rw [hT] at hx; obtain rfl : now = x := by simpa using hx
              exact ⟨h0, h1⟩
    | some y => rw [hT] at hx; obtain rfl : y = x := by simpa using hx
                exact ok s y hT
  · cases hx

theorem note_not (b m : Nat) (T : ByteArray → Option Int) (n : Nat) (v : Value) (now : Int) (w : World) (h : TB w b m T n) (ht : timeB now = false) :
    Calls Try.prog 9 #[.pointer (some ⟨b, 0, none⟩), v, .int .i64 now] w fun e w' => e = .returned (.tuple #[]) ∧ w' = w := by
  obtain ⟨c0, c1⟩ := h.cells
  clear h
  go_enter Try.func9, Try.ntmps9
  go_wp2_with (first
    | (go_at_call 23; (with_reducible refine (made_yes b _ c0).mono ?_); rintro e w1 ⟨rfl, rfl⟩)
    | (go_at_call 24; (with_reducible refine (time_any now _).mono ?_); rintro e w2 ⟨rfl, rfl⟩))
  refine bodyPost_ret (results_none rfl _ _ _) rfl ?_
  exact ⟨rfl, rfl⟩

set_option maxRecDepth 100000 in
set_option maxHeartbeats 4000000 in
theorem note_yes (b m : Nat) (T : ByteArray → Option Int) (n : Nat) (a : Option Addr) (ka : Nat) (l : List ByteArray) (now : Int) (w : World) (h : TB w b m T n) (hn : n ≤ 1000000) (hF : TxtL w a l) (hl : l.length ≤ 1000000) (hs : ∀ s ∈ l, s.size ≤ maxLen) (h0 : 0 ≤ now) (h1 : now ≤ 1099511627776) :
    Calls Try.prog 9 #[.pointer (some ⟨b, 0, none⟩), .slice a l.length ka, .int .i64 now] w fun e w' => e = .returned (.tuple #[]) ∧ TB w' b m (noteT T l now) (n + l.length) ∧ Only [b, m] w w' := by
  have ht : timeB now = true := decide_eq_true ⟨h0, h1⟩
  obtain ⟨c0, c1⟩ := h.cells
  have Hh := Lib.hid h
  have hb := h.row.lt
  have hm := h.mp.lt
  have HF := Lib.hid hF
  have hne := h.ne
  have Hs := Lib.hid hs
  have hmm := @run_makeMap Try.prog
  obtain ⟨q, hlq⟩ : ∃ q, l.length = q := ⟨_, rfl⟩
  have Hlq := Lib.hid hlq
  rw [hlq] at hl ⊢
  clear h hF hs hlq
  have HZ := Lib.hid ((MapIs.made w Try.prog 9).eq (g := setF (l.take 0)) (fun s => by simp [setF]))
  go_enter Try.func9, Try.ntmps9
  go_wp2_with (first
    | (go_at_call 23; (with_reducible refine (made_yes b _ c0).mono ?_); rintro e w1 ⟨rfl, rfl⟩)
    | (go_at_call 24; (with_reducible refine (time_any now _).mono ?_); rintro e w2 ⟨rfl, rfl⟩))
  -- the names, as a set
  go_loopw [27] (fun i wr => ∃ k : Nat, k ≤ q ∧ i = .int .i64 k ∧ MapIs Try.prog 9 wr w2.heap.size k (setF (l.take k)) ∧ Below w2.heap.size w2 wr) (fun i _ => q - (intOf i).toNat)
  case atStart => exact ⟨0, by omega, rfl, HZ.out, by (repeat' (first | with_reducible exact Below.refl _ _ | with_reducible assumption | with_reducible refine Below.drew ?_ | with_reducible refine below_drewN' ?_ _ | with_reducible refine Below.alloc ?_ ?_ _ | with_reducible refine Below.setCell ?_ ?_ _ | with_reducible refine below_step (by assumption) ?_ ?_ | omega | (simp; done) | (simp; omega)))⟩
  case round =>
    obtain ⟨k, hk, rfl, hM, hB⟩ := hrel
    obtain ⟨hcB, hfB⟩ := bcell hB
    have hbz := hB.size
    have HM := Lib.hid hM
    have HB := Lib.hid hB
    clear hM
    by_cases hlt : k < q
    · obtain ⟨x, hx⟩ := mem_at (l := l) (k := k) (by rw [Hlq.out]; exact hlt)
      have Hx := Lib.hid hx
      have hxs := Hs.out x (List.mem_of_getElem? hx)
      obtain ⟨b1, o1, rfl, hb1, hc1⟩ := HF.out (by rw [Hlq.out]; omega)
      have d1 := txt_cell (hc1 k x hx)
      rw [Nat.mul_one] at d1
      have hbw1 : b1 < wr.heap.size := by omega
      clear hc1 hx
      go_wp2_with (at_mapUpdate; refine at_put rfl _ _ _ 52 9 53 rfl law_str Try.underlying52 Try.underlying9 HM.out (by unfold maxLen; omega) rfl _ rfl hxs _ rfl ?_; intro w3 hm3 hg3; have HM3 := Lib.hid hm3; have HG3 := Lib.hid hg3; clear hm3 hg3)
      go_roundw
      case rel => exact ⟨k + 1, by omega, by go_num, HM3.out.eq (set_step Hx.out), (((Only.of_below (S := []) HB.out).mono (T := []) (by simp)).grown HG3.out (fun k e => .inr (by cases e; exact Nat.le_refl _))).below (Below.refl _ _) (Nat.le_refl _) (by simp)⟩
      case measure => simp [intOf]; omega
    · obtain rfl : k = q := by omega
      have HN := Lib.hid (show MapIs Try.prog 9 wr w2.heap.size k (setF l) by (have h := HM.out; rwa [List.take_of_length_le (Nat.le_of_eq Hlq.out)] at h))
      obtain ⟨w5, h5⟩ : ∃ w5, w5 = wr := ⟨_, rfl⟩
      subst h5
      have H5 := Lib.hid (Hh.out.below HB.out)
      have hbw5 : b < w5.heap.size := by omega
      have hmw5 : m < w5.heap.size := by omega
      have hnw5 : w2.heap.size < w5.heap.size := HN.out.lt
      have d0 := H5.out.cells.1
      have d1 := H5.out.cells.2
      clear HM HZ
      -- what is no longer so
      go_wp2_with (at_range; refine at_rng rfl _ 44 9 3 rfl law_str Try.underlying44 H5.out.mp rfl ?_; intro w6 left0 cnt0 hr6 hl6 hg6 hs6; have HR6 := Lib.hid (hr6.eq (keep_start T l left0 hl6)); have HG6 := Lib.hid hg6; clear hr6 hl6 hg6)
      go_frame
      go_loopw [9] (fun _ wr => ∃ (left : Lit → Bool) (cnt : Nat), RngIs Try.prog 9 wr m w5.heap.size n (keepF T l left) left cnt ∧ Only [m] w5 wr) (fun _ wr => wr.rangeLeft m w5.heap.size)
      case atStart => exact ⟨_, _, HR6.out, (Only.refl [m] w5).grown HG6.out (fun k e => by cases e)⟩
      case round =>
        obtain ⟨left, cnt, hR, hO⟩ := hrel
        have HR := Lib.hid hR
        have HO := Lib.hid hO
        have hzr := hO.size
        clear hR hO
        go_wp2_with (at_next; refine at_rng_next rfl _ rfl 9 law_str Try.underlying9 rfl HR.out ?_ ?_)
        · intro hl0
          have HE := Lib.hid (HR.out.map.eq (keep_end hl0))
          obtain ⟨w6', h6⟩ : ∃ w6', w6' = wr := ⟨_, rfl⟩
          subst h6
          have HE0 := Lib.hid (HE.out.eq (part_0 T l now))
          have e6 : w6'.cell? ⟨b, 1, none⟩ = some (.map (some m)) := by rw [World.cell?_of_block (HO.out.block b hbw5 (by simpa using hne))]; exact d1
          have hbw6 : b < w6'.heap.size := by omega
          clear HR HE
          go_wp2
          -- what has come
          go_loopw [59] (fun i wr => ∃ j : Nat, j ≤ k ∧ i = .int .i64 j ∧ MapIs Try.prog 9 wr m (n + j) (fun s => (partT T l now j s).map iv) ∧ Only [m] w6' wr) (fun i _ => k - (intOf i).toNat)
          case atStart => exact ⟨0, by omega, rfl, HE0.out, Only.refl _ _⟩
          case round =>
            obtain ⟨j, hj, rfl, hM, hO2⟩ := hrel
            have hzr2 := hO2.size
            have HM := Lib.hid hM
            have HO2 := Lib.hid hO2
            have e7 : wr.cell? ⟨b, 1, none⟩ = some (.map (some m)) := by rw [World.cell?_of_block (HO2.out.block b hbw6 (by simpa using hne))]; exact e6
            have hbwr : b < wr.heap.size := by omega
            clear hM hO2
            by_cases hlt : j < k
            · obtain ⟨x, hx⟩ := mem_at (l := l) (k := j) (by rw [Hlq.out]; exact hlt)
              have Hx := Lib.hid hx
              have hxs := Hs.out x (List.mem_of_getElem? hx)
              obtain ⟨b1, o1, rfl, hb1, hc1⟩ := HF.out (by rw [Hlq.out]; omega)
              have d3 := txt_cell (hc1 j x hx)
              rw [Nat.mul_one] at d3
              have q1 : b1 < wr.heap.size := by omega
              have hnm := Hh.out.mp.ne_cell d3
              have q2 : wr.cell? ⟨b1, o1 + j, none⟩ = some (.string x) := by
                rw [World.cell?_of_block (HO2.out.block b1 (by omega) (by simpa using hnm)), World.cell?_of_block (HO.out.block b1 (by omega) (by simpa using hnm)), World.cell?_of_block (HB.out.block b1 hb1)]
                exact d3
              clear hc1 hx
              cases hp : partT T l now j x with
              | none =>
                have e8 : (partT T l now j x).map iv = none := by simp [hp]
                have E8 := Lib.hid e8
                clear e8
                go_wp2_with (first
                  | (at_lookup; refine at_look_ok rfl _ _ 44 9 3 rfl law_str Try.underlying44 Try.underlying9 _ (zero_int _) HM.out rfl _ rfl hxs ?_; rw [E8.out])
                  | (at_mapUpdate; refine at_put rfl _ _ _ 44 9 3 rfl law_str Try.underlying44 Try.underlying9 HM.out (by unfold maxLen; omega) rfl _ rfl hxs _ rfl ?_; intro w9 hm9 hg9; have HM9 := Lib.hid (hm9.eq (part_put Hx.out hp)); have HG9 := Lib.hid hg9; clear hm9 hg9))
                go_roundw
                case rel => exact ⟨j + 1, by omega, by go_num, HM9.out, HO2.out.grown HG9.out (fun k e => .inl (by cases e; simp))⟩
                case measure => simp [intOf]; omega
              | some y =>
                have e8 : (partT T l now j x).map iv = some (iv y) := by simp [hp]
                have E8 := Lib.hid e8
                clear e8
                go_wp2_with (first
                  | (at_lookup; refine at_look_ok rfl _ _ 44 9 3 rfl law_str Try.underlying44 Try.underlying9 _ (zero_int _) HM.out rfl _ rfl hxs ?_; rw [E8.out]))
                go_roundw
                case rel => exact ⟨j + 1, by omega, by go_num, (HM.out.eq (fun s => by rw [part_has Hx.out (by rw [hp]; rfl)])).mono (by omega), HO2.out⟩
                case measure => simp [intOf]; omega
            · obtain rfl : j = k := by omega
              go_wp2
              go_end0
              refine ⟨rfl, ⟨?_, HM.out.eq (fun s => by rw [← Hlq.out, part_all]), noteT_ok h0 h1 Hh.out.ok⟩, ?_⟩
              · exact ((H5.out.row.only HO.out (by simpa using hne)).only HO2.out (by simpa using hne))
              · exact ((Only.of_below (S := [b, m]) HB.out).trans (HO.out.mono (by simp))).trans (HO2.out.mono (by simp))
        · intro x c w7 cnt7 hxs hlx _ hr7 hlt7 hg7 hs7 hen7
          have HR7 := Lib.hid hr7
          have HO7 := Lib.hid (HO.out.grown hg7 (fun k e => .inr (by cases e; exact Nat.le_refl _)))
          have HN7 := Lib.hid (HN.out.same (HO7.out.block _ hnw5 (by simp; omega)))
          have e7 : w7.cell? ⟨b, 1, none⟩ = some (.map (some m)) := by rw [World.cell?_of_block (HO7.out.block b hbw5 (by simpa using hne))]; exact d1
          have hb7 : b < w7.heap.size := by omega
          clear hr7 hg7
          by_cases hx : x ∈ l
          · have e8 := set_some l x
            rw [decide_eq_true hx] at e8
            have E8 := Lib.hid e8
            clear e8
            go_wp2_with (at_lookup; refine at_look_ok rfl _ _ 52 9 53 rfl law_str Try.underlying52 Try.underlying9 _ (zero_unit _) (HN7.out.below (by (repeat' (first | with_reducible exact Below.refl _ _ | with_reducible assumption | with_reducible refine Below.drew ?_ | with_reducible refine below_drewN' ?_ _ | with_reducible refine Below.alloc ?_ ?_ _ | with_reducible refine Below.setCell ?_ ?_ _ | with_reducible refine below_step (by assumption) ?_ ?_ | omega | (simp; done) | (simp; omega))))) rfl _ rfl hxs ?_; rw [E8.out, set_get])
            have HRx := Lib.hid ((HR7.out.below (w' := w7.alloc (.cells #[] 53)) (by (repeat' (first | with_reducible exact Below.refl _ _ | with_reducible assumption | with_reducible refine Below.drew ?_ | with_reducible refine below_drewN' ?_ _ | with_reducible refine Below.alloc ?_ ?_ _ | with_reducible refine Below.setCell ?_ ?_ _ | with_reducible refine below_step (by assumption) ?_ ?_ | omega | (simp; done) | (simp; omega))))).eq (keep_stays hx))
            go_roundw
            case rel => exact ⟨_, _, HRx.out, HO7.out.step (by (repeat' (first | with_reducible exact Below.refl _ _ | with_reducible assumption | with_reducible refine Below.drew ?_ | with_reducible refine below_drewN' ?_ _ | with_reducible refine Below.alloc ?_ ?_ _ | with_reducible refine Below.setCell ?_ ?_ _ | with_reducible refine below_step (by assumption) ?_ ?_ | omega | (simp; done) | (simp; omega))))⟩
            case measure => rw [HRx.out.left_eq, HR.out.left_eq]; exact hlt7
          · have e8 := set_some l x
            rw [decide_eq_false hx] at e8
            have E8 := Lib.hid e8
            clear e8
            have HRx := Lib.hid (HR7.out.below (w' := w7.alloc (.cells #[] 53)) (by (repeat' (first | with_reducible exact Below.refl _ _ | with_reducible assumption | with_reducible refine Below.drew ?_ | with_reducible refine below_drewN' ?_ _ | with_reducible refine Below.alloc ?_ ?_ _ | with_reducible refine Below.setCell ?_ ?_ _ | with_reducible refine below_step (by assumption) ?_ ?_ | omega | (simp; done) | (simp; omega)))))
            have e9 : (w7.alloc (.cells #[] 53)).cell? ⟨b, 1, none⟩ = some (.map (some m)) := by rw [((Below.refl w7.heap.size w7).alloc (Nat.le_refl _) _).cell (p := ⟨b, 1, none⟩) hb7]; exact e7
            go_wp2_with (first
              | (at_lookup; refine at_look_ok rfl _ _ 52 9 53 rfl law_str Try.underlying52 Try.underlying9 _ (zero_unit _) (HN7.out.below (by (repeat' (first | with_reducible exact Below.refl _ _ | with_reducible assumption | with_reducible refine Below.drew ?_ | with_reducible refine below_drewN' ?_ _ | with_reducible refine Below.alloc ?_ ?_ _ | with_reducible refine Below.setCell ?_ ?_ _ | with_reducible refine below_step (by assumption) ?_ ?_ | omega | (simp; done) | (simp; omega))))) rfl _ rfl hxs ?_; rw [E8.out, set_get])
              | (at_delete; refine at_rng_del rfl _ _ 44 9 3 rfl law_str Try.underlying44 Try.underlying9 HRx.out rfl _ rfl hxs ?_; intro w9 cnt9 hr9 hc9 ht9; have HR9 := Lib.hid (hr9.eq (keep_struck hx)); have HT9 := Lib.hid ht9; clear hr9 ht9; go_frame))
            go_roundw
            case rel => exact ⟨_, _, HR9.out, (HO7.out.alloc _).grown HT9.out.grown (fun k e => .inl (by cases e; simp))⟩
            case measure => rw [HR9.out.left_eq, HR.out.left_eq]; omega
end Go.Proofs.Yteccmjbgedmfhaa
