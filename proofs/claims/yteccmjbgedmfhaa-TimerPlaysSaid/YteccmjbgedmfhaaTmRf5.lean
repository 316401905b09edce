/-
  The document's table: Note.
-/
import Derived.Test.YteccmjbgedmfhaaTmRf4
namespace Go.Proofs.Yteccmjbgedmfhaa
open Go.RowKit
set_option linter.unusedVariables false
set_option linter.unusedSimpArgs false

/-- Behind the first k notes of the old list. -/
def goneT (T : ByteArray → Option Int) (M : List Nt) (l : List ByteArray) (k : Nat) : ByteArray → Option Int := fun s => if s ∈ l ∨ ¬ s ∈ (M.take k).map (·.1) then T s else none
theorem gone_0 (T : ByteArray → Option Int) (M : List Nt) (l : List ByteArray) (s : ByteArray) : T s = goneT T M l 0 s := by simp [goneT]
theorem map_take_succ {M : List Nt} {k : Nat} {x : Nt} (h : M[k]? = some x) (s : ByteArray) : s ∈ (M.take (k + 1)).map (·.1) ↔ s ∈ (M.take k).map (·.1) ∨ s = x.1 := by
  rw [take_at h, List.map_append, List.mem_append]
  simp
theorem ite_iff {α : Type} {c d : Prop} [Decidable c] [Decidable d] {x y : α} (h : c ↔ d) : (if c then x else y) = if d then x else y := by
  by_cases hc : c
  · rw [if_pos hc, if_pos (h.1 hc)]
  · rw [if_neg hc, if_neg fun hd => hc (h.2 hd)]
theorem gone_keep {T : ByteArray → Option Int} {M : List Nt} {l : List ByteArray} {k : Nat} {x : Nt} (h : M[k]? = some x) (hx : x.1 ∈ l) (s : ByteArray) : goneT T M l k s = goneT T M l (k + 1) s := by
  unfold goneT
  refine ite_iff ?_
  rw [map_take_succ h]
  constructor
  · rintro (h1 | h1)
    · exact .inl h1
    · by_cases hs : s = x.1
      · exact .inl (hs ▸ hx)
      · exact .inr fun h2 => h2.elim h1 hs
  · rintro (h1 | h1)
    · exact .inl h1
    · exact .inr fun h2 => h1 (.inl h2)
theorem gone_drop {T : ByteArray → Option Int} {M : List Nt} {l : List ByteArray} {k : Nat} {x : Nt} (h : M[k]? = some x) (hx : ¬ x.1 ∈ l) (s : ByteArray) : updT (goneT T M l k) x.1 none s = goneT T M l (k + 1) s := by
  by_cases hs : s = x.1
  · subst hs
    rw [updT_same]
    unfold goneT
    rw [if_neg]
    rintro (h1 | h1)
    · exact hx h1
    · exact h1 ((map_take_succ h _).2 (.inr rfl))
  · rw [updT_other hs]
    unfold goneT
    refine ite_iff ?_
    rw [map_take_succ h]
    constructor
    · rintro (h1 | h1)
      · exact .inl h1
      · exact .inr fun h2 => h2.elim h1 hs
    · rintro (h1 | h1)
      · exact .inl h1
      · exact .inr fun h2 => h1 (.inl h2)
theorem gone_all {T : ByteArray → Option Int} {M : List Nt} (h : Rep T M) (l : List ByteArray) (s : ByteArray) : goneT T M l M.length s = partT T l 0 0 s := by
  unfold goneT partT
  rw [List.take_length]
  simp only [List.take_zero, List.not_mem_nil, if_false]
  by_cases hl : s ∈ l
  · simp [hl]
  · by_cases hm : s ∈ M.map (·.1)
    · simp [hl, hm]
    · have hT : T s = none := by
        cases hT : T s with
        | none => rfl
        | some t => exact absurd (List.mem_map.2 ⟨(s, t), (h.rep s t).1 hT, rfl⟩) hm
      simp [hl, hm, hT]
theorem part_zero (T : ByteArray → Option Int) (l : List ByteArray) (a b : Int) (s : ByteArray) : partT T l a 0 s = partT T l b 0 s := by simp [partT]
theorem part_upd {T : ByteArray → Option Int} {l : List ByteArray} {now : Int} {k : Nat} {x : ByteArray} (h : l[k]? = some x) (hx : partT T l now k x = none) (s : ByteArray) : updT (partT T l now k) x (some now) s = partT T l now (k + 1) s := by
  have h1 := part_put (T := T) (now := now) h hx s
  rw [show (some (iv now) : Option Value) = (some now : Option Int).map iv from rfl, upd_map] at h1
  cases h2 : updT (partT T l now k) x (some now) s <;> cases h3 : partT T l now (k + 1) s <;> rw [h2, h3] at h1 <;> first | rfl | (cases h1; done) | (have h4 : iv _ = iv _ := Option.some.inj h1; injection h4 with _ h4; rw [h4])
theorem Rep.eq {T U : ByteArray → Option Int} {M : List Nt} (h : Rep T M) (e : ∀ s, T s = U s) : Rep U M := by
  have : T = U := funext e
  exact this ▸ h
theorem filter_le {M : List Nt} {g : ByteArray} {n : Nat} (h : M.length ≤ n) : (M.filter (notG g)).length ≤ n := Nat.le_trans (List.length_filter_le _ _) h

theorem rows_only {α : Type} {enc : α → List Value} {K : Nat} {w w' : World} {a : Option Addr} {l : List α} {S : List Nat} (h : RowsAt enc K w a l) (ho : Only S w w') (hn : 0 < l.length → ∃ b off, a = some ⟨b, off, none⟩ ∧ b ∉ S) : RowsAt enc K w' a l := fun hp => by
  obtain ⟨b, off, e, hb, hc⟩ := h hp
  obtain ⟨b', off', e', hs⟩ := hn hp
  rw [e] at e'
  injection e' with e'
  injection e' with e1 e2
  subst e1
  refine ⟨b, off, e, Nat.lt_of_lt_of_le hb ho.size, fun i x hx r hr => ?_⟩
  rw [← hc i x hx r hr]
  exact World.cell?_of_block (ho.block b hb hs)
theorem rnote_not (p : Nat) (v : Value) (now : Int) (w : World) (ht : timeB now = false) :
    Calls Try.prog 10 #[.pointer (some ⟨p, 0, none⟩), v, .int .i64 now] w fun e w' => e = .returned (.tuple #[]) ∧ w' = w := by
  go_enter Try.func10, Try.ntmps10
  go_wp2_with (go_at_call 25; (with_reducible refine (rtime_any now _).mono ?_); rintro e w2 ⟨rfl, rfl⟩)
  refine bodyPost_ret (results_none rfl _ _ _) rfl ?_
  exact ⟨rfl, rfl⟩

set_option maxRecDepth 100000 in
set_option maxHeartbeats 8000000 in
theorem rnote_yes (base p : Nat) (T : ByteArray → Option Int) (M : List Nt) (v : Value) (a : Option Addr) (ka : Nat) (l : List ByteArray) (now : Int) (w : World) (h : RT w base p M v) (hr : Rep T M) (hm : M.length ≤ 500000) (hF : TxtL w a l) (hap : 0 < l.length → ∃ b off, a = some ⟨b, off, none⟩ ∧ b ≠ p) (hl : l.length ≤ 1000) (hs : ∀ s ∈ l, s.size ≤ 1000000000) (hle : ∀ x ∈ M, x.1.size ≤ 1000000000) (h0 : 0 ≤ now) (h1 : now ≤ 1099511627776) :
    Calls Try.prog 10 #[.pointer (some ⟨p, 0, none⟩), .slice a l.length ka, .int .i64 now] w fun e w' => e = .returned (.tuple #[]) ∧ ∃ M' v', Rep (noteT T l now) M' ∧ M'.length ≤ M.length + l.length ∧ (∀ x ∈ M', x.1.size ≤ 1000000000) ∧ RT w' base p M' v' ∧ Only [p] w w' := by
  have ht : timeB now = true := decide_eq_true ⟨h0, h1⟩
  have Hh := Lib.hid h
  have HR := Lib.hid hr
  have HF := Lib.hid hF
  have Hs := Lib.hid hs
  have Hle := Lib.hid hle
  have Hap := Lib.hid hap
  have hnp := h.ne
  have hp := h.row.lt
  have cp := h.row.cell 0
  dsimp only [List.getElem?_cons_zero] at cp
  obtain ⟨c, kc, rfl, hM⟩ : ∃ c kc, v = .slice c M.length kc ∧ NtL w c M := by
    obtain ⟨a, k, e, _, hR⟩ := IsL.of_own ntc_len (by decide) h.own
    exact ⟨a, _, e, hR⟩
  have HMr := Lib.hid hM
  obtain ⟨n, hn⟩ : ∃ n, M.length = n := ⟨_, rfl⟩
  have Hn := Lib.hid hn
  obtain ⟨q, hq⟩ : ∃ q, l.length = q := ⟨_, rfl⟩
  have Hq := Lib.hid hq
  rw [hn] at hm cp hnp
  rw [hq] at hl ⊢
  clear h hr hF hs hle hn hq hap hM
  go_enter Try.func10, Try.ntmps10
  go_wp2_with (go_at_call 25; (with_reducible refine (rtime_any now _).mono ?_); rintro e w2 ⟨rfl, rfl⟩)
  -- what is no longer so
  go_loopw [7] (fun i wr => ∃ (k : Nat) (M1 : List Nt) (v1 : Value), k ≤ n ∧ i = .int .i64 k ∧ Rep (goneT T M l k) M1 ∧ M1.length ≤ n ∧ (∀ x ∈ M1, x.1.size ≤ 1000000000) ∧ RT wr base p M1 v1 ∧ Only [p] w2 wr) (fun i _ => n - (intOf i).toNat)
  case atStart => exact ⟨0, M, _, Nat.zero_le _, rfl, HR.out.eq (gone_0 T M l), Nat.le_of_eq Hn.out, Hle.out, Hh.out, Only.refl _ _⟩
  case round =>
    obtain ⟨k, M1, v1, hk, rfl, hr1, hm1, hle1, ht1, ho1⟩ := hrel
    have HR1 := Lib.hid hr1
    have HL1 := Lib.hid hle1
    have HT1 := Lib.hid ht1
    have HO1 := Lib.hid ho1
    have hz1 := ho1.size
    clear hr1 hle1 ht1 ho1
    by_cases hlt : k < n
    · obtain ⟨x, hx⟩ := mem_at (l := M) (k := k) (by rw [Hn.out]; exact hlt)
      have Hx := Lib.hid hx
      obtain ⟨b, off, rfl, hb, hc⟩ := HMr.out (by rw [Hn.out]; omega)
      have hbp : b ≠ p := fun e => hnp (by rw [e]; rfl)
      have hMr := rows_only HMr.out HO1.out (fun _ => ⟨b, off, rfl, by simpa using hbp⟩)
      obtain ⟨b', off', e, hb', hc'⟩ := hMr (by rw [Hn.out]; omega)
      cases e
      obtain ⟨x0, x1⟩ := nt_cells (hc' k x hx)
      have HA := Lib.hid (among_any a ka l x.1 wr (rows_only HF.out HO1.out (fun h => by
        obtain ⟨b2, o2, e2, h2⟩ := Hap.out h
        exact ⟨b2, o2, e2, by simpa using h2⟩)) (by rw [Hq.out]; omega))
      rw [Hq.out] at HA
      clear hc hc' hx hMr
      by_cases hm : x.1 ∈ l
      · rw [decide_eq_true hm] at HA
        have HG := Lib.hid (HR1.out.eq (gone_keep Hx.out hm))
        clear hm
        go_wp2_with (go_at_call 26; (with_reducible refine HA.out.mono ?_); rintro e w3 ⟨rfl, rfl⟩)
        go_roundw
        case rel => exact ⟨k + 1, M1, v1, by omega, by go_num, HG.out, hm1, HL1.out, HT1.out, HO1.out⟩
        case measure => simp [intOf]; omega
      · rw [decide_eq_false hm] at HA
        have HG := Lib.hid ((HR1.out.drop x.1).eq (gone_drop Hx.out hm))
        have HD := Lib.hid (rdrop_any base p M1 v1 x.1 wr HT1.out (by omega))
        clear hm
        go_wp2_with (first
          | (go_at_call 26; (with_reducible refine HA.out.mono ?_); rintro e w3 ⟨rfl, rfl⟩)
          | (go_at_call 12; (with_reducible refine HD.out.mono ?_); rintro e w4 ⟨rfl, v4, hT4, hO4, _⟩; have HT4 := Lib.hid hT4; have HO4 := Lib.hid hO4; clear hT4 hO4))
        go_roundw
        case rel => exact ⟨k + 1, _, v4, by omega, by go_num, HG.out, filter_le hm1, fun y hy => HL1.out y (List.mem_filter.1 hy).1, HT4.out, HO1.out.trans HO4.out⟩
        case measure => simp [intOf]; omega
    · obtain rfl : k = n := by omega
      have HG := Lib.hid ((HR1.out.eq (fun s => by rw [← Hn.out]; exact gone_all HR.out l s)).eq (part_zero T l 0 now))
      obtain ⟨w5, h5⟩ : ∃ w5, w5 = wr := ⟨_, rfl⟩
      subst h5
      clear HR1
      go_wp2
      -- what has come
      go_loopw [8] (fun i wr => ∃ (j : Nat) (M2 : List Nt) (v2 : Value), j ≤ q ∧ i = .int .i64 j ∧ Rep (partT T l now j) M2 ∧ M2.length ≤ k + j ∧ (∀ x ∈ M2, x.1.size ≤ 1000000000) ∧ RT wr base p M2 v2 ∧ Only [p] w2 wr) (fun i _ => q - (intOf i).toNat)
      case atStart => exact ⟨0, M1, v1, Nat.zero_le _, rfl, HG.out, hm1, HL1.out, HT1.out, HO1.out⟩
      case round =>
        obtain ⟨j, M2, v2, hj, rfl, hr2, hm2, hle2, ht2, ho2⟩ := hrel
        have HR2 := Lib.hid hr2
        have HL2 := Lib.hid hle2
        have HT2 := Lib.hid ht2
        have HO2 := Lib.hid ho2
        have hz2 := ho2.size
        clear hr2 hle2 ht2 ho2
        by_cases hlt : j < q
        · obtain ⟨y, hy⟩ := mem_at (l := l) (k := j) (by rw [Hq.out]; exact hlt)
          have Hy := Lib.hid hy
          have hFr := rows_only HF.out HO2.out (fun h => by
            obtain ⟨b2, o2, e2, h2⟩ := Hap.out h
            exact ⟨b2, o2, e2, by simpa using h2⟩)
          obtain ⟨b1, o1, rfl, hb1, hc1⟩ := hFr (by rw [Hq.out]; omega)
          have d1 := txt_cell (hc1 j y hy)
          rw [Nat.mul_one] at d1
          have hys := Hs.out y (List.mem_of_getElem? hy)
          clear hc1 hy hFr
          cases hpt : partT T l now j y with
          | none =>
            have HP := Lib.hid (place_miss base p M2 v2 y wr HT2.out (HR2.out.none_ne hpt) (by omega))
            have HU := Lib.hid (rput_any base p _ M2 v2 y now wr HT2.out HR2.out (by omega) hpt hys h0 h1 HL2.out)
            have HE := Lib.hid (part_upd Hy.out hpt)
            clear hpt
            go_wp2_with (first
              | (go_at_call 27; (with_reducible refine HP.out.mono ?_); rintro e w3 ⟨rfl, rfl⟩)
              | (go_at_call 28; (with_reducible refine HU.out.mono ?_); rintro e w4 ⟨rfl, M4, v4, hR4, hl4, hL4, hT4, hO4, _⟩; have HR4 := Lib.hid hR4; have HT4 := Lib.hid hT4; have HO4 := Lib.hid hO4; have HL4 := Lib.hid hL4; have Hl4 := Lib.hid hl4; clear hR4 hT4 hO4 hL4 hl4))
            go_roundw
            case rel => exact ⟨j + 1, M4, v4, by omega, by go_num, HR4.out.eq HE.out, by rw [Hl4.out]; omega, HL4.out, HT4.out, HO2.out.trans HO4.out⟩
            case measure => simp [intOf]; omega
          | some t =>
            obtain ⟨i, hi, hu⟩ := HR2.out.at_some hpt
            have HP := Lib.hid (place_hit base p M2 v2 y i (y, t) wr HT2.out hi rfl hu (by omega))
            have HE := Lib.hid (part_has (now := now) Hy.out (by rw [hpt]; rfl))
            have j1 : decide ((i : Int) < 0) = false := decide_eq_false (by omega)
            clear hpt hi hu
            go_wp2_with (go_at_call 27; (with_reducible refine HP.out.mono ?_); rintro e w3 ⟨rfl, rfl⟩)
            go_roundw
            case rel => exact ⟨j + 1, M2, v2, by omega, by go_num, HR2.out.eq HE.out, by omega, HL2.out, HT2.out, HO2.out⟩
            case measure => simp [intOf]; omega
        · obtain rfl : j = q := by omega
          go_wp2
          go_end0
          exact ⟨rfl, M2, v2, HR2.out.eq (fun s => by rw [← Hq.out]; exact part_all T l now s), by rw [Hn.out]; exact hm2, HL2.out, HT2.out, HO2.out⟩
end Go.Proofs.Yteccmjbgedmfhaa
