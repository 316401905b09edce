/-
  Block: the document's Right of budgets; right at any budgets.
-/
import Derived.Test.YtkmhicoimgpdlaaBk7
namespace Go.Proofs.Ytkmhicoimgpdlaa
open Go.RowKit
set_option linter.unusedVariables false
set_option linter.unusedSimpArgs false

def RtG (l : List Bg) : Prop := ∀ x ∈ l, 0 ≤ x.le ∧ x.le ≤ 400
set_option maxRecDepth 100000 in
set_option maxHeartbeats 16000000 in
theorem rightg_any (d : Option Addr) (kd : Nat) (l : List Bg) (w : World) (hF : BgL w d l) (hI : ∀ b ∈ l, BgIn w b) (hL : LtG l) :
    Calls Try.prog 27 #[.slice d l.length kd] w fun e w' => (∃ b, e = .returned (.bool b) ∧ (b = true → RtG l)) ∧ Below w.heap.size w w' := by
  obtain ⟨n, hn⟩ : ∃ n, l.length = n := ⟨_, rfl⟩
  have hn30 : n ≤ 30 := by rw [← hn]; exact hL.1
  have Hn := Lib.hid hn
  have HF := Lib.hid hF
  have HI := Lib.hid hI
  have HLt := Lib.hid hL.2
  rw [hn]
  clear hn hF hI hL
  by_cases h30 : n ≤ 16
  · have hlt1 : ((16 : Int) < n) = False := eq_false (by omega)
    go_enter Try.func27, Try.ntmps27
    go_wp2
    go_loopw [3] (fun vi wr => ∃ k : Nat, k ≤ n ∧ vi = .int .i64 k ∧ (∀ x ∈ l.take k, 0 ≤ x.le ∧ x.le ≤ 400) ∧ Below w.heap.size w wr) (fun vi _ => n - (intOf vi).toNat)
    case atStart => exact ⟨0, Nat.zero_le _, rfl, (fun x h => by simp at h), Below.refl _ _⟩
    case round =>
      obtain ⟨k, hk, rfl, hE, hB⟩ := hrel
      have HB := Lib.hid hB
      by_cases hlt : k < n
      · obtain ⟨b, hb⟩ := mem_at (l := l) (k := k) (by rw [Hn.out]; exact hlt)
        have hbm := List.mem_of_getElem? hb
        obtain ⟨q, o, rfl, hq, hc⟩ := HF.out (by rw [Hn.out]; omega)
        have HC0 := Lib.hid (show w.cell? ⟨q, o + k * 3, none⟩ = some (.string b.nm) from hc k b hb 0 (by decide))
        have HC1 := Lib.hid (show w.cell? ⟨q, o + k * 3 + 1, none⟩ = some (.slice b.ma b.mt.length b.mk') from hc k b hb 1 (by decide))
        have HC2 := Lib.hid (show w.cell? ⟨q, o + k * 3 + 2, none⟩ = some (.int .i64 b.le) from hc k b hb 2 (by decide))
        have HCs := Lib.hid (show ∀ (j : Nat) (x : Bg), l[j]? = some x → w.cell? ⟨q, o + j * 3, none⟩ = some (.string x.nm) from fun j x hx => hc j x hx 0 (by decide))
        have hsz := (HLt.out b hbm).1
        have hlm := (lightL_iff b.mt).1 (HLt.out b hbm).2
        have HWd := Lib.hid (fun V => refword_any b.nm (by omega) V)
        have HLr := Lib.hid (fun V (hV : Below w.heap.size w V) => refright_l b.ma b.mk' b.mt V ((HI.out b hbm).mono hV).mt (fun x hx => by have := hlm.2 x hx; omega) (HI.out b hbm).ll)
        obtain ⟨wd, hwd⟩ : ∃ z, wordB b.nm = z := ⟨_, rfl⟩
        obtain ⟨lb, hlb⟩ : ∃ z, labsB b.mt = z := ⟨_, rfl⟩
        rw [hwd] at HWd
        rw [hlb] at HLr
        have HNx := Lib.hid (fun (h : 0 ≤ b.le ∧ b.le ≤ 400) => show ∀ x ∈ l.take (k + 1), 0 ≤ x.le ∧ x.le ≤ 400 from fun x hx => by
          rw [List.take_add_one, hb, List.mem_append] at hx
          rcases hx with hx | hx
          · exact hE x hx
          · obtain rfl : x = b := by simpa using hx
            exact h)
        have c0 : wr.cell? ⟨q, o + k * 3, none⟩ = some (.string b.nm) := (hB.cell (p := ⟨q, o + k * 3, none⟩) hq).trans HC0.out
        have hqr := Nat.lt_of_lt_of_le hq hB.size
        obtain ⟨le, he⟩ : ∃ e, b.le = e := ⟨_, rfl⟩
        rw [he] at HNx HC2
        obtain ⟨m, hm⟩ : ∃ m, b.mt.length = m := ⟨_, rfl⟩
        rw [hm] at HLr HC1
        have C : (wd = false) ∨ (wd = true ∧ ((m : Int) == 0) = true) ∨ (wd = true ∧ ((m : Int) == 0) = false ∧ lb = false) ∨ (wd = true ∧ ((m : Int) == 0) = false ∧ lb = true ∧ (le < 0) = True) ∨ (wd = true ∧ ((m : Int) == 0) = false ∧ lb = true ∧ (le < 0) = False ∧ (400 < le) = True) ∨ (wd = true ∧ ((m : Int) == 0) = false ∧ lb = true ∧ (le < 0) = False ∧ (400 < le) = False ∧ 0 ≤ le ∧ le ≤ 400) := by
          cases wd
          · exact .inl rfl
          · by_cases h1 : m = 0
            · exact .inr (.inl ⟨rfl, by rw [h1]; rfl⟩)
            · have h1' : ((m : Int) == 0) = false := by rw [beq_eq_false_iff_ne]; omega
              cases lb
              · exact .inr (.inr (.inl ⟨rfl, h1', rfl⟩))
              · by_cases h2 : le < 0
                · exact .inr (.inr (.inr (.inl ⟨rfl, h1', rfl, eq_true h2⟩)))
                · by_cases h3 : 400 < le
                  · exact .inr (.inr (.inr (.inr (.inl ⟨rfl, h1', rfl, eq_false h2, eq_true h3⟩))))
                  · exact .inr (.inr (.inr (.inr (.inr ⟨rfl, h1', rfl, eq_false h2, eq_false h3, by omega, by omega⟩))))
        clear hE hB hc hb hbm hsz hlm hwd hlb he hm
        rcases C with rfl | ⟨rfl, q1⟩ | ⟨rfl, q1, rfl⟩ | ⟨rfl, q1, rfl, q2⟩ | ⟨rfl, q1, rfl, q2, q3⟩ | ⟨rfl, q1, rfl, q2, q3, q4⟩
        · skip
          clear HNx
          go_wp2_with (first
            | (go_at_call 47; (with_reducible refine (HWd.out _).mono ?_); rintro e w1 ⟨rfl, hb⟩; have HB1 := Lib.hid (HB.out.trans (hb.mono HB.out.size)); have hq1 := Nat.lt_of_lt_of_le hq HB1.out.size; have c1 : w1.cell? ⟨q, o + k * 3 + 1, none⟩ = some (.slice b.ma m b.mk') := (HB1.out.cell (p := ⟨q, o + k * 3 + 1, none⟩) hq).trans HC1.out; clear hb c0 hqr)
            | (go_at_call 48; (with_reducible refine (HLr.out _ HB1.out).mono ?_); rintro e w2 ⟨rfl, hb⟩; have HB2 := Lib.hid (HB1.out.trans (hb.mono HB1.out.size)); have hq2 := Nat.lt_of_lt_of_le hq HB2.out.size; have c2 : w2.cell? ⟨q, o + k * 3 + 2, none⟩ = some (.int .i64 le) := (HB2.out.cell (p := ⟨q, o + k * 3 + 2, none⟩) hq).trans HC2.out; clear hb))
          refine bodyPost_ret (v := .bool false) (by simp [results, Try.results27, go_sem]) rfl ⟨⟨false, rfl, fun h => nomatch h⟩, by first | exact HB2.out | exact HB1.out⟩
        · skip
          clear HNx
          go_wp2_with (first
            | (go_at_call 47; (with_reducible refine (HWd.out _).mono ?_); rintro e w1 ⟨rfl, hb⟩; have HB1 := Lib.hid (HB.out.trans (hb.mono HB.out.size)); have hq1 := Nat.lt_of_lt_of_le hq HB1.out.size; have c1 : w1.cell? ⟨q, o + k * 3 + 1, none⟩ = some (.slice b.ma m b.mk') := (HB1.out.cell (p := ⟨q, o + k * 3 + 1, none⟩) hq).trans HC1.out; clear hb c0 hqr)
            | (go_at_call 48; (with_reducible refine (HLr.out _ HB1.out).mono ?_); rintro e w2 ⟨rfl, hb⟩; have HB2 := Lib.hid (HB1.out.trans (hb.mono HB1.out.size)); have hq2 := Nat.lt_of_lt_of_le hq HB2.out.size; have c2 : w2.cell? ⟨q, o + k * 3 + 2, none⟩ = some (.int .i64 le) := (HB2.out.cell (p := ⟨q, o + k * 3 + 2, none⟩) hq).trans HC2.out; clear hb))
          refine bodyPost_ret (v := .bool false) (by simp [results, Try.results27, go_sem]) rfl ⟨⟨false, rfl, fun h => nomatch h⟩, by first | exact HB2.out | exact HB1.out⟩
        · skip
          clear HNx
          go_wp2_with (first
            | (go_at_call 47; (with_reducible refine (HWd.out _).mono ?_); rintro e w1 ⟨rfl, hb⟩; have HB1 := Lib.hid (HB.out.trans (hb.mono HB.out.size)); have hq1 := Nat.lt_of_lt_of_le hq HB1.out.size; have c1 : w1.cell? ⟨q, o + k * 3 + 1, none⟩ = some (.slice b.ma m b.mk') := (HB1.out.cell (p := ⟨q, o + k * 3 + 1, none⟩) hq).trans HC1.out; clear hb c0 hqr)
            | (go_at_call 48; (with_reducible refine (HLr.out _ HB1.out).mono ?_); rintro e w2 ⟨rfl, hb⟩; have HB2 := Lib.hid (HB1.out.trans (hb.mono HB1.out.size)); have hq2 := Nat.lt_of_lt_of_le hq HB2.out.size; have c2 : w2.cell? ⟨q, o + k * 3 + 2, none⟩ = some (.int .i64 le) := (HB2.out.cell (p := ⟨q, o + k * 3 + 2, none⟩) hq).trans HC2.out; clear hb))
          refine bodyPost_ret (v := .bool false) (by simp [results, Try.results27, go_sem]) rfl ⟨⟨false, rfl, fun h => nomatch h⟩, by first | exact HB2.out | exact HB1.out⟩
        · skip
          clear HNx
          go_wp2_with (first
            | (go_at_call 47; (with_reducible refine (HWd.out _).mono ?_); rintro e w1 ⟨rfl, hb⟩; have HB1 := Lib.hid (HB.out.trans (hb.mono HB.out.size)); have hq1 := Nat.lt_of_lt_of_le hq HB1.out.size; have c1 : w1.cell? ⟨q, o + k * 3 + 1, none⟩ = some (.slice b.ma m b.mk') := (HB1.out.cell (p := ⟨q, o + k * 3 + 1, none⟩) hq).trans HC1.out; clear hb c0 hqr)
            | (go_at_call 48; (with_reducible refine (HLr.out _ HB1.out).mono ?_); rintro e w2 ⟨rfl, hb⟩; have HB2 := Lib.hid (HB1.out.trans (hb.mono HB1.out.size)); have hq2 := Nat.lt_of_lt_of_le hq HB2.out.size; have c2 : w2.cell? ⟨q, o + k * 3 + 2, none⟩ = some (.int .i64 le) := (HB2.out.cell (p := ⟨q, o + k * 3 + 2, none⟩) hq).trans HC2.out; clear hb))
          refine bodyPost_ret (v := .bool false) (by simp [results, Try.results27, go_sem]) rfl ⟨⟨false, rfl, fun h => nomatch h⟩, by first | exact HB2.out | exact HB1.out⟩
        · skip
          clear HNx
          go_wp2_with (first
            | (go_at_call 47; (with_reducible refine (HWd.out _).mono ?_); rintro e w1 ⟨rfl, hb⟩; have HB1 := Lib.hid (HB.out.trans (hb.mono HB.out.size)); have hq1 := Nat.lt_of_lt_of_le hq HB1.out.size; have c1 : w1.cell? ⟨q, o + k * 3 + 1, none⟩ = some (.slice b.ma m b.mk') := (HB1.out.cell (p := ⟨q, o + k * 3 + 1, none⟩) hq).trans HC1.out; clear hb c0 hqr)
            | (go_at_call 48; (with_reducible refine (HLr.out _ HB1.out).mono ?_); rintro e w2 ⟨rfl, hb⟩; have HB2 := Lib.hid (HB1.out.trans (hb.mono HB1.out.size)); have hq2 := Nat.lt_of_lt_of_le hq HB2.out.size; have c2 : w2.cell? ⟨q, o + k * 3 + 2, none⟩ = some (.int .i64 le) := (HB2.out.cell (p := ⟨q, o + k * 3 + 2, none⟩) hq).trans HC2.out; clear hb))
          refine bodyPost_ret (v := .bool false) (by simp [results, Try.results27, go_sem]) rfl ⟨⟨false, rfl, fun h => nomatch h⟩, by first | exact HB2.out | exact HB1.out⟩
        · have HN2 := Lib.hid (HNx.out q4)
          clear HNx q4
          go_upto_region 8 with (first
            | (go_at_call 47; (with_reducible refine (HWd.out _).mono ?_); rintro e w1 ⟨rfl, hb⟩; have HB1 := Lib.hid (HB.out.trans (hb.mono HB.out.size)); have hq1 := Nat.lt_of_lt_of_le hq HB1.out.size; have c1 : w1.cell? ⟨q, o + k * 3 + 1, none⟩ = some (.slice b.ma m b.mk') := (HB1.out.cell (p := ⟨q, o + k * 3 + 1, none⟩) hq).trans HC1.out; clear hb c0 hqr)
            | (go_at_call 48; (with_reducible refine (HLr.out _ HB1.out).mono ?_); rintro e w2 ⟨rfl, hb⟩; have HB2 := Lib.hid (HB1.out.trans (hb.mono HB1.out.size)); have hq2 := Nat.lt_of_lt_of_le hq HB2.out.size; have c2 : w2.cell? ⟨q, o + k * 3 + 2, none⟩ = some (.int .i64 le) := (HB2.out.cell (p := ⟨q, o + k * 3 + 2, none⟩) hq).trans HC2.out; clear hb))
          have HB9 := Lib.hid (show Below w.heap.size w w2 from HB2.out)
          clear HB1 HB2 c1 c2 hq1 hq2
          go_wp2
          go_loopw [4] (fun vj wy => ∃ j : Nat, j ≤ k ∧ vj = .int .i64 j ∧ Below w.heap.size w wy) (fun vj _ => k - (intOf vj).toNat)
          case atStart => exact ⟨0, Nat.zero_le _, rfl, HB9.out⟩
          case round =>
            obtain ⟨j, hj, rfl, hBj⟩ := hrel
            have HBj := Lib.hid hBj
            by_cases hlj : j < k
            · obtain ⟨y, hy⟩ := mem_at (l := l) (k := j) (by rw [Hn.out]; omega)
              have cy : wr.cell? ⟨q, o + j * 3, none⟩ = some (.string y.nm) := (hBj.cell (p := ⟨q, o + j * 3, none⟩) hq).trans (HCs.out j y hy)
              have ck : wr.cell? ⟨q, o + k * 3, none⟩ = some (.string b.nm) := (hBj.cell (p := ⟨q, o + k * 3, none⟩) hq).trans HC0.out
              have hqj := Nat.lt_of_lt_of_le hq hBj.size
              have hjn : j < n := by omega
              clear hBj hy
              by_cases hyb : y.nm = b.nm
              · have q5 := str_yes hyb
                clear hyb
                go_upto_region 11 with (fail)
                have hcH := held_cell
                refine region_rel (by kernel_rfl) (by kernel_rfl) ?_
                repeat
                  ((with_reducible refine relStep (fun K hK => ?_))
                   (have HK := Lib.hid hK)
                   clear hK
                   (apply relInl
                    · intro r n hf
                      have Hf := Lib.hid hf
                      clear hf
                      (first
                        | (fail)
                        | (unfold relAt
                           go_simp
                           (first | (refine relUpon_val ?_ (Below.refl _ _); exact rfl) | exact rfl | (refine relUpon_enter ?_; fail))))
                    (simp only [Act.put, List.setIfInBounds_toArray, List.set_cons_zero, List.set_cons_succ])
                    (with_reducible refine HK.out _ _ ?_)
                    clear HK K))
                refine relNil ?_
                intro r5 n5 hx5
                clear hcH
                (try simp only [List.nil_append, List.cons_append, List.mem_cons, List.not_mem_nil, or_false, forall_eq_or_imp, forall_eq, false_implies, implies_true] at hx5)
                obtain ⟨w5, hb5⟩ := n5
                (try dsimp only)
                obtain ⟨hc5, hf5⟩ := bcell hb5
                have hz5 := hb5.size
                (try simp at hz5)
                have HB5 := Lib.hid (HBj.out.trans (hb5.mono HBj.out.size))
                clear hb5 hc5 hf5 hz5
                go_wp2
                refine bodyPost_ret (v := .bool false) (by simp [results, Try.results27, go_sem]) rfl ⟨⟨false, rfl, fun h => nomatch h⟩, HB5.out⟩
              · have q5 := str_no hyb
                clear hyb
                go_upto_region 11 with (fail)
                have hcH := held_cell
                refine region_rel (by kernel_rfl) (by kernel_rfl) ?_
                repeat
                  ((with_reducible refine relStep (fun K hK => ?_))
                   (have HK := Lib.hid hK)
                   clear hK
                   (apply relInl
                    · intro r n hf
                      have Hf := Lib.hid hf
                      clear hf
                      (first
                        | (fail)
                        | (unfold relAt
                           go_simp
                           (first | (refine relUpon_val ?_ (Below.refl _ _); exact rfl) | exact rfl | (refine relUpon_enter ?_; fail))))
                    (simp only [Act.put, List.setIfInBounds_toArray, List.set_cons_zero, List.set_cons_succ])
                    (with_reducible refine HK.out _ _ ?_)
                    clear HK K))
                refine relNil ?_
                intro r5 n5 hx5
                clear hcH
                (try simp only [List.nil_append, List.cons_append, List.mem_cons, List.not_mem_nil, or_false, forall_eq_or_imp, forall_eq, false_implies, implies_true] at hx5)
                obtain ⟨w5, hb5⟩ := n5
                (try dsimp only)
                obtain ⟨hc5, hf5⟩ := bcell hb5
                have hz5 := hb5.size
                (try simp at hz5)
                have HB5 := Lib.hid (HBj.out.trans (hb5.mono HBj.out.size))
                clear hb5 hc5 hf5 hz5
                go_wp2
                go_roundw
                case rel => exact ⟨j + 1, by omega, by go_num, HB5.out⟩
                case measure => simp [intOf]; omega
            · obtain rfl : j = k := by omega
              clear hBj
              go_wp2
              go_roundw
              case rel => exact ⟨j + 1, by omega, by go_num, HN2.out, HBj.out⟩
              case measure => simp [intOf]; omega
      · obtain rfl : k = n := by omega
        have HE := Lib.hid (show RtG l from by
          have h9 := hE
          rw [List.take_of_length_le (by rw [Hn.out]; exact Nat.le_refl _)] at h9
          exact h9)
        clear hE hB
        go_wp2
        refine bodyPost_ret (v := .bool true) (by simp [results, Try.results27, go_sem]) rfl ⟨⟨true, rfl, fun _ => HE.out⟩, HB.out⟩
  · have hlt1 : ((16 : Int) < n) = True := eq_true (by omega)
    go_enter Try.func27, Try.ntmps27
    go_wp2
    refine bodyPost_ret (v := .bool false) (by simp [results, Try.results27, go_sem]) rfl ⟨⟨false, rfl, fun h => nomatch h⟩, Below.refl _ _⟩
end Go.Proofs.Ytkmhicoimgpdlaa
