/-
  TimerMore: what is so for longer is so for less long; what is ripe is noted.
-/
import Derived.Test.YteccmjbgedmfhaaTmKn
import Derived.Test.YteccmjbgedmfhaaTmLt
import Derived.Test.YteccmjbgedmfhaaTmOne
import Derived.StillTailTactics
namespace Go.Proofs.Yteccmjbgedmfhaa
namespace timerMore
open Go.ChangeShapes Go.WideShapes Go.ChangeAt Go.RowKit
set_option linter.unusedVariables false
set_option linter.unusedSimpArgs false

theorem filter_pos {α : Type} (p : α → Bool) : ∀ b : List α, ∃ f : Nat → Nat, (∀ i x, (b.filter p)[i]? = some x → b[f i]? = some x) ∧ ∀ i j, i < j → f i < f j
  | [] => ⟨fun i => i, fun i x h => by simp at h, fun i j h => h⟩
  | y :: b => by
    obtain ⟨f, h1, h2⟩ := filter_pos p b
    cases hp : p y with
    | true =>
      refine ⟨fun i => match i with | 0 => 0 | i + 1 => f i + 1, fun i x h => ?_, fun i j hij => ?_⟩
      · rw [List.filter_cons_of_pos hp] at h
        cases i with
        | zero => simpa using h
        | succ i => simpa using h1 i x (by simpa using h)
      · cases j with
        | zero => omega
        | succ j =>
          cases i with
          | zero => exact Nat.succ_pos _
          | succ i => exact Nat.succ_lt_succ (h2 i j (by omega))
    | false =>
      refine ⟨fun i => f i + 1, fun i x h => ?_, fun i j hij => Nat.succ_lt_succ (h2 i j hij)⟩
      rw [List.filter_cons_of_neg (by rw [hp]; exact Bool.false_ne_true)] at h
      simpa using h1 i x h
set_option maxRecDepth 100000 in
set_option maxHeartbeats 8000000 in
theorem walk (a : Option Addr) (kc : Nat) (nw lg : Int) (w : World) (L : List (OpIn w)) (hF : OpL w a L) (hl : L.length ≤ maxLen) (hn0 : 0 ≤ nw) (hn1 : nw ≤ 65535) (hg0 : 0 ≤ lg) (hg1 : lg ≤ 255) :
    Calls Try.prog 6 #[.slice a L.length kc, .int .u16 nw, .int .u8 lg] w fun e w' => e = .returned (.bool true) ∧ Below w.heap.size w w' := by
  obtain ⟨q, hq⟩ : ∃ q, L.length = q := ⟨_, rfl⟩
  have Hq := Lib.hid hq
  have HF := Lib.hid hF
  rw [hq] at hl ⊢
  clear hq hF
  go_enter Try.func6, Try.ntmps6
  go_wp2_with (go_at_call 7; (with_reducible refine (new_any _).mono ?_); rintro e w1 ⟨b, m, rfl, hT1, hbb, hmm, hb1⟩; have HT1 := Lib.hid hT1; have HB1 := Lib.hid hb1; clear hT1 hb1)
  go_loopw [8] (fun vi wr => ∃ (k : Nat) (T : ByteArray → Option Int), k ≤ 20 ∧ k ≤ q ∧ vi = .int .i64 k ∧ TB wr b m T (20 * k) ∧ Below w.heap.size w wr) (fun vi _ => 20 - (intOf vi).toNat)
  case atStart => exact ⟨0, _, by omega, by omega, rfl, HT1.out, HB1.out⟩
  case round =>
    obtain ⟨k, T, hk, hkq, rfl, hT, hB⟩ := hrel
    have HT := Lib.hid hT
    have HB := Lib.hid hB
    have hbz := hB.size
    clear hT hB
    by_cases hlt : k < q ∧ k < 20
    · obtain ⟨hlt, hlt2⟩ := hlt
      obtain ⟨⟨x, hxm⟩, hx⟩ := mem_at (l := L) (k := k) (by rw [Hq.out]; exact hlt)
      obtain ⟨b1, o1, rfl, hb1, hc1⟩ := HF.out (by rw [Hq.out]; omega)
      obtain ⟨d0, d1, d2, d3⟩ := op_cells (hc1 k _ hx)
      rw [← HB.out.cell (p := ⟨b1, _, none⟩) hb1] at d0 d1 d2 d3
      dsimp only at d0 d1 d2 d3
      have hbw : b1 < wr.heap.size := by omega
      have HL := light_any x wr (hxm.mono HB.out)
      obtain ⟨kd, ad, cp, nm, nw2, lg2⟩ := x
      dsimp only at d0 d1 d2 d3 HL hxm
      have HXM := Lib.hid hxm
      clear hc1 hx hxm
      cases hlb : lightB nm with
      | false =>
        rw [hlb] at HL
        have HL' := Lib.hid HL
        clear HL hlb
        go_wp2_with (go_at_call 8; (with_reducible refine HL'.out.mono ?_); rintro e w2 ⟨rfl, hb2⟩)
        go_roundw
        case rel => exact ⟨k + 1, T, by omega, by omega, by go_num, (HT.out.below hb2).mono (by omega), HB.out.trans (hb2.mono HB.out.size)⟩
        case measure => simp [intOf]; omega
      | true =>
        obtain ⟨hn20, hn300⟩ := light_le hlb
        rw [hlb] at HL
        have HL' := Lib.hid HL
        clear HL hlb
        go_wp2_with (go_at_call 8; (with_reducible refine HL'.out.mono ?_); rintro e w2 ⟨rfl, hb2⟩)
        obtain ⟨V, hV⟩ : ∃ V, V = ({ w2 with drawn := w2.drawn + 1 } : World) := ⟨_, rfl⟩
        have hbV : Below wr.heap.size wr V := by rw [hV]; exact hb2.drew
        have e1 : V.cell? ⟨b1, o1 + k * 4 + 1, none⟩ = some (.slice ad nm.length cp) := by rw [hbV.cell (p := ⟨b1, _, none⟩) hbw]; exact d1
        have e2 : V.cell? ⟨b1, o1 + k * 4 + 2, none⟩ = some (.int .i64 nw2) := by rw [hbV.cell (p := ⟨b1, _, none⟩) hbw]; exact d2
        have hzV := hbV.size
        have HN := Lib.hid (note_all b m T (20 * k) ad cp nm nw2 V (HT.out.below hbV) (by omega) ((HXM.out.mono HB.out).mono hbV) (by omega) (fun s hs => by have := hn300 s hs; unfold maxLen; omega))
        have HBV := Lib.hid (HB.out.trans (hbV.mono HB.out.size))
        have hVz := hbV.size
        refine wp_region_still_tail 11 (by kernel_rfl) (by kernel_rfl) ?_
        rw [← hV]
        clear hV hb2 hbV d0 d1 d2 d3
        simp only [List.take_succ_cons, List.take_zero, List.drop_succ_cons, List.drop_zero]
        repeat still_step
        refine wpStill_nil ?_
        go_wp2_with (go_at_call 9; (with_reducible refine HN.out.mono ?_); rintro e w3 ⟨rfl, hT3, hO3⟩; have HT3 := Lib.hid hT3; have HO3 := Lib.hid hO3; clear hT3 hO3)
        go_roundw
        case rel => exact ⟨k + 1, _, by omega, by omega, by go_num, HT3.out.mono (by omega), HO3.out.below HBV.out HBV.out.size (by simp; omega)⟩
        case measure => simp [intOf]; omega
    · by_cases e : k < q
      · have e2 : k = 20 := by omega
        subst e2
        have HR := Lib.hid (fun (len : Int) (h0 : 0 ≤ len) (V : World) (hb : Below wr.heap.size wr V) => ripe_yes b m T (20 * 20) nw len V (HT.out.below hb) (by omega) hn0 (by omega) h0)
        go_wp2_with (first
          | (go_at_call 19; (with_reducible refine (HR.out (lg + 1) (by omega) _ (Below.refl _ _)).mono ?_); rintro e w6 ⟨av, ra, rfl, hA⟩; have HA := Lib.hid hA; clear hA)
          | (go_at_call 19; (with_reducible refine (HR.out lg (by omega) _ HA.out.below).mono ?_); rintro e w7 ⟨bv, rb, rfl, hBb⟩; have HBb := Lib.hid hBb; clear hBb))
        obtain ⟨l, hol, hll, hra⟩ := HA.out.from_
        obtain ⟨l2, hol2, _, hrb⟩ := HBb.out.from_
        obtain rfl := ord_one hol hol2
        have hab : ra = rb.filter (ripeB T nw (lg + 1)) := by
          rw [hra, hrb, List.filter_filter]
          refine List.filter_congr fun s _ => ?_
          unfold ripeB
          by_cases h1 : nw - ordT T s < lg
          · have h2 : nw - ordT T s < lg + 1 := by omega
            simp [h1, h2]
          · simp [h1]
        obtain ⟨f, hf1, hf2⟩ := filter_pos (ripeB T nw (lg + 1)) rb
        rw [← hab] at hf1
        have hB7 := HB.out.trans ((HA.out.below.trans (HBb.out.below.mono HA.out.below.size)).mono hbz)
        have hBr7 := HA.out.below.trans (HBb.out.below.mono HA.out.below.size)
        have hnb : rb.length ≤ l.length := by rw [hrb]; exact List.length_filter_le _ _
        have hna : ra.length ≤ rb.length := by rw [hab]; exact List.length_filter_le _ _
        have hmem : ∀ x ∈ ra, ∃ t, T x = some t ∧ t ≤ nw := fun x hx => by
          rw [hra, List.mem_filter, hol.mem] at hx
          obtain ⟨h1, h2⟩ := hx
          obtain ⟨t, ht⟩ := Option.isSome_iff_exists.1 h1
          refine ⟨t, ht, ?_⟩
          unfold ripeB ordT at h2
          rw [ht] at h2
          have h3 : ¬ nw - t < lg + 1 := by simpa using h2
          omega
        obtain ⟨aa, ka, rfl, _, hrowa⟩ := HA.out.rows.mono HBb.out.below
        obtain ⟨ab, kb, rfl, _, hrowb⟩ := HBb.out.rows
        obtain ⟨n1, hn1e⟩ : ∃ n1, ra.length = n1 := ⟨_, rfl⟩
        obtain ⟨n2, hn2e⟩ : ∃ n2, rb.length = n2 := ⟨_, rfl⟩
        have Hn1 := Lib.hid hn1e
        have Hn2 := Lib.hid hn2e
        have HRa := Lib.hid hrowa
        have HRb := Lib.hid hrowb
        have HF1 := Lib.hid hf1
        have HM := Lib.hid hmem
        have HO := Lib.hid hol
        have HB7 := Lib.hid hB7
        have HT7 := Lib.hid (HT.out.below hBr7)
        rw [hn2e] at hnb hna
        rw [hn1e] at hna
        have hn2m : n2 ≤ 1000000 := by omega
        rw [hn1e, hn2e]
        clear hra hrb hab hol hol2 HR HA HBb hrowa hrowb hf1 hmem hB7 hBr7 hn1e hn2e HT HB
        go_loopw [11, 12] (fun vat vi wv => ∃ t i : Nat, i ≤ n1 ∧ vi = .int .i64 i ∧ vat = .int .i64 t ∧ t ≤ n2 ∧ (i < n1 → t ≤ f i) ∧ Below w7.heap.size w7 wv) (fun _ vi _ => n1 - (intOf vi).toNat)
        case atStart => exact ⟨0, 0, Nat.zero_le _, rfl, rfl, Nat.zero_le _, fun _ => Nat.zero_le _, by (repeat' (first | with_reducible exact Below.refl _ _ | with_reducible assumption | with_reducible refine Below.drew ?_ | with_reducible refine below_drewN' ?_ _ | with_reducible refine Below.alloc ?_ ?_ _ | with_reducible refine Below.setCell ?_ ?_ _ | with_reducible refine below_step (by assumption) ?_ ?_ | omega | (simp; done) | (simp; omega)))⟩
        case round =>
          obtain ⟨t, i, hi, rfl, rfl, ht2, htf, hV⟩ := hrel
          have HV := Lib.hid hV
          have hVz := hV.size
          clear hV
          by_cases hin : i < n1
          · have htf2 := htf hin
            have Hlt := Lib.hid (hf2 i (i + 1) (by omega))
            obtain ⟨x, hx⟩ := mem_at (l := ra) (k := i) (by rw [Hn1.out]; exact hin)
            obtain ⟨ba, oa, rfl, hba, hca⟩ := HRa.out (by rw [Hn1.out]; omega)
            have ca := txt_cell (hca i x hx)
            rw [Nat.mul_one] at ca
            have hxf := HF1.out i x hx
            have hfn : f i < n2 := by have := lt_at hxf; rwa [Hn2.out] at this
            obtain ⟨tx, htx, htxn⟩ := HM.out x (List.mem_of_getElem? hx)
            have Htx := Lib.hid htx
            have Hxf := Lib.hid hxf
            obtain ⟨bb, ob, rfl, hbb2, hcb⟩ := HRb.out (by rw [Hn2.out]; omega)
            have Hcb := Lib.hid hcb
            have hxm : x.size ≤ maxLen := by
              have := HO.out.le x ((HO.out.mem x).2 (by rw [htx]; rfl))
              exact this
            clear hx hxf htx hca hcb htf
            obtain ⟨w8, h8⟩ : ∃ w8, w8 = wr := ⟨_, rfl⟩
            subst h8
            go_wp2
            go_loopw [11] (fun vat wv => ∃ t : Nat, vat = .int .i64 t ∧ t ≤ f i ∧ Below w7.heap.size w7 wv) (fun vat _ => f i - (intOf vat).toNat)
            case atStart => exact ⟨t, rfl, htf2, HV.out⟩
            case round =>
              obtain ⟨t2, rfl, ht2f, hV2⟩ := hrel
              have HV2 := Lib.hid hV2
              have hV2z := hV2.size
              clear hV2
              obtain ⟨y, hy⟩ := mem_at (l := rb) (k := t2) (by rw [Hn2.out]; omega)
              have cb := txt_cell (Hcb.out t2 y hy)
              rw [Nat.mul_one] at cb
              have da : wr.cell? ⟨ba, oa + i, none⟩ = some (.string x) := by rw [HV2.out.cell (p := ⟨ba, _, none⟩) hba]; exact ca
              have db : wr.cell? ⟨bb, ob + t2, none⟩ = some (.string y) := by rw [HV2.out.cell (p := ⟨bb, _, none⟩) hbb2]; exact cb
              have g1 : ba < wr.heap.size := by omega
              have g2 : bb < wr.heap.size := by omega
              have hlt2 : (t2 : Int) < n2 := by omega
              have j1 : decide ((t2 : Int) < (n2 : Int)) = true := decide_eq_true hlt2
              have Hy := Lib.hid hy
              clear hy cb
              by_cases hyx : y = x
              · have k1 := txt_eq hyx
                have j2 : ((t2 : Int) == (n2 : Int)) = false := by simp; omega
                have HS := Lib.hid (fun (V : World) (hb : Below w7.heap.size w7 V) => show Calls Try.prog 14 #[.pointer (some ⟨b, 0, none⟩), .string x] V (fun e w' => e = .returned (.tuple #[.int .i64 tx, .bool true]) ∧ w' = V) from by (have h := since_any b m T (20 * 20) x V (HT7.out.below hb) hxm); rw [Htx.out] at h; exact h)
                clear hyx
                go_wp2
                go_quiet (fail)
                go_wp2_with (go_at_call 14; (with_reducible refine (HS.out _ (by (have h := HV2.out); (repeat' (first | with_reducible exact Below.refl _ _ | with_reducible assumption | with_reducible refine Below.drew ?_ | with_reducible refine below_drewN' ?_ _ | with_reducible refine Below.alloc ?_ ?_ _ | with_reducible refine Below.setCell ?_ ?_ _ | with_reducible refine below_step (by assumption) ?_ ?_ | omega | (simp; done) | (simp; omega))))).mono ?_); rintro e w9 ⟨rfl, rfl⟩)
                go_roundw
                case rel => exact ⟨t2, i + 1, by omega, by go_num, rfl, by omega, (fun _ => by have := Hlt.out; omega), by (have h := HV2.out); (repeat' (first | with_reducible exact Below.refl _ _ | with_reducible assumption | with_reducible refine Below.drew ?_ | with_reducible refine below_drewN' ?_ _ | with_reducible refine Below.alloc ?_ ?_ _ | with_reducible refine Below.setCell ?_ ?_ _ | with_reducible refine below_step (by assumption) ?_ ?_ | omega | (simp; done) | (simp; omega)))⟩
                case measure => simp [intOf]; omega
              · have k1 := txt_ne hyx
                have hne : t2 ≠ f i := fun e => hyx (by have h1 := Hy.out; rw [e, Hxf.out] at h1; exact (Option.some.inj h1).symm)
                clear hyx
                go_wp2
                go_quiet (fail)
                go_wp2
                go_roundw
                case rel => exact ⟨t2 + 1, by go_num, by omega, by (have h := HV2.out); (repeat' (first | with_reducible exact Below.refl _ _ | with_reducible assumption | with_reducible refine Below.drew ?_ | with_reducible refine below_drewN' ?_ _ | with_reducible refine Below.alloc ?_ ?_ _ | with_reducible refine Below.setCell ?_ ?_ _ | with_reducible refine below_step (by assumption) ?_ ?_ | omega | (simp; done) | (simp; omega)))⟩
                case measure => simp [intOf]; omega
          · obtain rfl : i = n1 := by omega
            have HN := Lib.hid (names_any b m T (20 * 20) wr (HT7.out.below HV.out) (by omega))
            go_wp2_with (go_at_call 17; (with_reducible refine HN.out.mono ?_); rintro e w9 ⟨nv, nl, rfl, hN⟩; obtain ⟨na, nk, hnv, _, _⟩ := isL_own hN.own; have hN1 := ord_one hN.ord HO.out; rw [hN1] at hnv; subst hnv; have HN9 := Lib.hid hN.below; clear hN hN1)
            have j3 : decide ((n2 : Int) ≤ (l.length : Int)) = true := decide_eq_true (by omega)
            go_wp2_with (go_at_call 21; (with_reducible refine (known_any _).mono ?_); rintro e w10 ⟨rfl, hb10⟩; have HB10 := Lib.hid hb10; clear hb10)
            go_ret
            have hA := HB7.out.trans (HV.out.mono HB7.out.size)
            have hC := hA.trans (HN9.out.mono hA.size)
            exact ⟨rfl, hC.trans (HB10.out.mono hC.size)⟩
      · obtain rfl : k = q := by omega
        have HR := Lib.hid (fun (len : Int) (h0 : 0 ≤ len) (V : World) (hb : Below wr.heap.size wr V) => ripe_yes b m T (20 * k) nw len V (HT.out.below hb) (by omega) hn0 (by omega) h0)
        go_wp2_with (first
          | (go_at_call 19; (with_reducible refine (HR.out (lg + 1) (by omega) _ (Below.refl _ _)).mono ?_); rintro e w6 ⟨av, ra, rfl, hA⟩; have HA := Lib.hid hA; clear hA)
          | (go_at_call 19; (with_reducible refine (HR.out lg (by omega) _ HA.out.below).mono ?_); rintro e w7 ⟨bv, rb, rfl, hBb⟩; have HBb := Lib.hid hBb; clear hBb))
        obtain ⟨l, hol, hll, hra⟩ := HA.out.from_
        obtain ⟨l2, hol2, _, hrb⟩ := HBb.out.from_
        obtain rfl := ord_one hol hol2
        have hab : ra = rb.filter (ripeB T nw (lg + 1)) := by
          rw [hra, hrb, List.filter_filter]
          refine List.filter_congr fun s _ => ?_
          unfold ripeB
          by_cases h1 : nw - ordT T s < lg
          · have h2 : nw - ordT T s < lg + 1 := by omega
            simp [h1, h2]
          · simp [h1]
        obtain ⟨f, hf1, hf2⟩ := filter_pos (ripeB T nw (lg + 1)) rb
        rw [← hab] at hf1
        have hB7 := HB.out.trans ((HA.out.below.trans (HBb.out.below.mono HA.out.below.size)).mono hbz)
        have hBr7 := HA.out.below.trans (HBb.out.below.mono HA.out.below.size)
        have hnb : rb.length ≤ l.length := by rw [hrb]; exact List.length_filter_le _ _
        have hna : ra.length ≤ rb.length := by rw [hab]; exact List.length_filter_le _ _
        have hmem : ∀ x ∈ ra, ∃ t, T x = some t ∧ t ≤ nw := fun x hx => by
          rw [hra, List.mem_filter, hol.mem] at hx
          obtain ⟨h1, h2⟩ := hx
          obtain ⟨t, ht⟩ := Option.isSome_iff_exists.1 h1
          refine ⟨t, ht, ?_⟩
          unfold ripeB ordT at h2
          rw [ht] at h2
          have h3 : ¬ nw - t < lg + 1 := by simpa using h2
          omega
        obtain ⟨aa, ka, rfl, _, hrowa⟩ := HA.out.rows.mono HBb.out.below
        obtain ⟨ab, kb, rfl, _, hrowb⟩ := HBb.out.rows
        obtain ⟨n1, hn1e⟩ : ∃ n1, ra.length = n1 := ⟨_, rfl⟩
        obtain ⟨n2, hn2e⟩ : ∃ n2, rb.length = n2 := ⟨_, rfl⟩
        have Hn1 := Lib.hid hn1e
        have Hn2 := Lib.hid hn2e
        have HRa := Lib.hid hrowa
        have HRb := Lib.hid hrowb
        have HF1 := Lib.hid hf1
        have HM := Lib.hid hmem
        have HO := Lib.hid hol
        have HB7 := Lib.hid hB7
        have HT7 := Lib.hid (HT.out.below hBr7)
        rw [hn2e] at hnb hna
        rw [hn1e] at hna
        have hn2m : n2 ≤ 1000000 := by omega
        rw [hn1e, hn2e]
        clear hra hrb hab hol hol2 HR HA HBb hrowa hrowb hf1 hmem hB7 hBr7 hn1e hn2e HT HB
        go_loopw [11, 12] (fun vat vi wv => ∃ t i : Nat, i ≤ n1 ∧ vi = .int .i64 i ∧ vat = .int .i64 t ∧ t ≤ n2 ∧ (i < n1 → t ≤ f i) ∧ Below w7.heap.size w7 wv) (fun _ vi _ => n1 - (intOf vi).toNat)
        case atStart => exact ⟨0, 0, Nat.zero_le _, rfl, rfl, Nat.zero_le _, fun _ => Nat.zero_le _, by (repeat' (first | with_reducible exact Below.refl _ _ | with_reducible assumption | with_reducible refine Below.drew ?_ | with_reducible refine below_drewN' ?_ _ | with_reducible refine Below.alloc ?_ ?_ _ | with_reducible refine Below.setCell ?_ ?_ _ | with_reducible refine below_step (by assumption) ?_ ?_ | omega | (simp; done) | (simp; omega)))⟩
        case round =>
          obtain ⟨t, i, hi, rfl, rfl, ht2, htf, hV⟩ := hrel
          have HV := Lib.hid hV
          have hVz := hV.size
          clear hV
          by_cases hin : i < n1
          · have htf2 := htf hin
            have Hlt := Lib.hid (hf2 i (i + 1) (by omega))
            obtain ⟨x, hx⟩ := mem_at (l := ra) (k := i) (by rw [Hn1.out]; exact hin)
            obtain ⟨ba, oa, rfl, hba, hca⟩ := HRa.out (by rw [Hn1.out]; omega)
            have ca := txt_cell (hca i x hx)
            rw [Nat.mul_one] at ca
            have hxf := HF1.out i x hx
            have hfn : f i < n2 := by have := lt_at hxf; rwa [Hn2.out] at this
            obtain ⟨tx, htx, htxn⟩ := HM.out x (List.mem_of_getElem? hx)
            have Htx := Lib.hid htx
            have Hxf := Lib.hid hxf
            obtain ⟨bb, ob, rfl, hbb2, hcb⟩ := HRb.out (by rw [Hn2.out]; omega)
            have Hcb := Lib.hid hcb
            have hxm : x.size ≤ maxLen := by
              have := HO.out.le x ((HO.out.mem x).2 (by rw [htx]; rfl))
              exact this
            clear hx hxf htx hca hcb htf
            obtain ⟨w8, h8⟩ : ∃ w8, w8 = wr := ⟨_, rfl⟩
            subst h8
            go_wp2
            go_loopw [11] (fun vat wv => ∃ t : Nat, vat = .int .i64 t ∧ t ≤ f i ∧ Below w7.heap.size w7 wv) (fun vat _ => f i - (intOf vat).toNat)
            case atStart => exact ⟨t, rfl, htf2, HV.out⟩
            case round =>
              obtain ⟨t2, rfl, ht2f, hV2⟩ := hrel
              have HV2 := Lib.hid hV2
              have hV2z := hV2.size
              clear hV2
              obtain ⟨y, hy⟩ := mem_at (l := rb) (k := t2) (by rw [Hn2.out]; omega)
              have cb := txt_cell (Hcb.out t2 y hy)
              rw [Nat.mul_one] at cb
              have da : wr.cell? ⟨ba, oa + i, none⟩ = some (.string x) := by rw [HV2.out.cell (p := ⟨ba, _, none⟩) hba]; exact ca
              have db : wr.cell? ⟨bb, ob + t2, none⟩ = some (.string y) := by rw [HV2.out.cell (p := ⟨bb, _, none⟩) hbb2]; exact cb
              have g1 : ba < wr.heap.size := by omega
              have g2 : bb < wr.heap.size := by omega
              have hlt2 : (t2 : Int) < n2 := by omega
              have j1 : decide ((t2 : Int) < (n2 : Int)) = true := decide_eq_true hlt2
              have Hy := Lib.hid hy
              clear hy cb
              by_cases hyx : y = x
              · have k1 := txt_eq hyx
                have j2 : ((t2 : Int) == (n2 : Int)) = false := by simp; omega
                have HS := Lib.hid (fun (V : World) (hb : Below w7.heap.size w7 V) => show Calls Try.prog 14 #[.pointer (some ⟨b, 0, none⟩), .string x] V (fun e w' => e = .returned (.tuple #[.int .i64 tx, .bool true]) ∧ w' = V) from by (have h := since_any b m T (20 * k) x V (HT7.out.below hb) hxm); rw [Htx.out] at h; exact h)
                clear hyx
                go_wp2
                go_quiet (fail)
                go_wp2_with (go_at_call 14; (with_reducible refine (HS.out _ (by (have h := HV2.out); (repeat' (first | with_reducible exact Below.refl _ _ | with_reducible assumption | with_reducible refine Below.drew ?_ | with_reducible refine below_drewN' ?_ _ | with_reducible refine Below.alloc ?_ ?_ _ | with_reducible refine Below.setCell ?_ ?_ _ | with_reducible refine below_step (by assumption) ?_ ?_ | omega | (simp; done) | (simp; omega))))).mono ?_); rintro e w9 ⟨rfl, rfl⟩)
                go_roundw
                case rel => exact ⟨t2, i + 1, by omega, by go_num, rfl, by omega, (fun _ => by have := Hlt.out; omega), by (have h := HV2.out); (repeat' (first | with_reducible exact Below.refl _ _ | with_reducible assumption | with_reducible refine Below.drew ?_ | with_reducible refine below_drewN' ?_ _ | with_reducible refine Below.alloc ?_ ?_ _ | with_reducible refine Below.setCell ?_ ?_ _ | with_reducible refine below_step (by assumption) ?_ ?_ | omega | (simp; done) | (simp; omega)))⟩
                case measure => simp [intOf]; omega
              · have k1 := txt_ne hyx
                have hne : t2 ≠ f i := fun e => hyx (by have h1 := Hy.out; rw [e, Hxf.out] at h1; exact (Option.some.inj h1).symm)
                clear hyx
                go_wp2
                go_quiet (fail)
                go_wp2
                go_roundw
                case rel => exact ⟨t2 + 1, by go_num, by omega, by (have h := HV2.out); (repeat' (first | with_reducible exact Below.refl _ _ | with_reducible assumption | with_reducible refine Below.drew ?_ | with_reducible refine below_drewN' ?_ _ | with_reducible refine Below.alloc ?_ ?_ _ | with_reducible refine Below.setCell ?_ ?_ _ | with_reducible refine below_step (by assumption) ?_ ?_ | omega | (simp; done) | (simp; omega)))⟩
                case measure => simp [intOf]; omega
          · obtain rfl : i = n1 := by omega
            have HN := Lib.hid (names_any b m T (20 * k) wr (HT7.out.below HV.out) (by omega))
            go_wp2_with (go_at_call 17; (with_reducible refine HN.out.mono ?_); rintro e w9 ⟨nv, nl, rfl, hN⟩; obtain ⟨na, nk, hnv, _, _⟩ := isL_own hN.own; have hN1 := ord_one hN.ord HO.out; rw [hN1] at hnv; subst hnv; have HN9 := Lib.hid hN.below; clear hN hN1)
            have j3 : decide ((n2 : Int) ≤ (l.length : Int)) = true := decide_eq_true (by omega)
            go_wp2_with (go_at_call 21; (with_reducible refine (known_any _).mono ?_); rintro e w10 ⟨rfl, hb10⟩; have HB10 := Lib.hid hb10; clear hb10)
            go_ret
            have hA := HB7.out.trans (HV.out.mono HB7.out.size)
            have hC := hA.trans (HN9.out.mono hA.size)
            exact ⟨rfl, hC.trans (HB10.out.mono hC.size)⟩

set_option maxRecDepth 100000 in
theorem lifted (os : Os) (started : os.Started) (H : Type) (enc : TypeId × Value → H) :
    ReturnsInHanded {} Try.checked os 6 .any (Rows.timerMoreSpec.pre6 enc Try.prog Try.f6 Rows.timerMoreRow.domain false) (Rows.timerMoreSpec.post enc Try.prog Try.f6 false true false false) := by
  refine returnsInHanded_of_change (C := Try.checked) Try.own started (by kernel_rfl) Try.func6
    (ChangeSpec.witness6 (enc := enc) (C := Try.checked) false ⟨#[], #[.slice none 0 0, .int .u16 0, .int .u8 0], []⟩ 8 (by kernel_rfl) (by kernel_rfl) (by kernel_rfl) (by kernel_rfl)) ?_
  intro W base args ds gs before hval hW _ _
  have hW' := hW
  obtain ⟨p, q, hA, hV, rfl, hfz, hnd⟩ := hW
  rw [Try.params6] at hA hval
  obtain ⟨v0, v1, v2, d0, d1, d2, p0, p1, p2, rfl, rfl, rfl, h0, h1, h2⟩ := trodAll_three hA
  obtain ⟨a, l, k, rfl, _, hF, hl, _⟩ := open_ops (hval 0 22 v0 rfl rfl) h0
  obtain ⟨nw, rfl, _, _, wn⟩ := open_int Try.underlying48 (hval 1 48 v1 rfl rfl) h1
  obtain ⟨lg, rfl, _, _, wg⟩ := open_int Try.underlying5 (hval 2 5 v2 rfl rfl) h2
  have hn : 0 ≤ nw ∧ nw ≤ 65535 := by simpa [Lit.wf, IntKind.min, IntKind.max, IntKind.signed, IntKind.bits] using wn
  have hg : 0 ≤ lg ∧ lg ≤ 255 := by simpa [Lit.wf, IntKind.min, IntKind.max, IntKind.signed, IntKind.bits] using wg
  refine (walk a k nw lg W l hF hl hn.1 hn.2 hg.1 hg.2).mono fun e W' ⟨he, hb⟩ => ?_
  exact ⟨_, he, law_post Try.laidOut hW' rfl (by kernel_rfl) (by kernel_rfl) Try.underlying4 rfl rfl rfl hb⟩

theorem over : Rows.timerMoreRow.holds Try.pinned (OpenSpec.ofChange Rows.timerMoreSpec) :=
  OpenClaim.holds_of_wide 6 Try.f6 rfl rfl rfl rfl rfl rfl rfl ⟨rfl, rfl, rfl, rfl, rfl⟩ rfl rfl rfl rfl rfl (by kernel_rfl) Try.func6 (by kernel_rfl)
    (of_decide_eq_true (by kernel_rfl)) (by unfold Func.isWrapper; first | (rw [if_pos (by decide +kernel)]; kernel_rfl) | (rw [if_neg (by decide +kernel)]; exact ⟨rfl, rfl⟩))
    (fun os started H enc _ => lifted os started H enc)

/-- The statement. -/
theorem proved : Rows.TimerMoreSaid := over
end timerMore
end Go.Proofs.Yteccmjbgedmfhaa
