/-
  Block: the document's Light and Right of budgets, right at any budgets.
-/
import Derived.Test.YtkmhicoimgpdlaaBk6
namespace Go.Proofs.Ytkmhicoimgpdlaa
open Go.RowKit
set_option linter.unusedVariables false
set_option linter.unusedSimpArgs false

def LtG (l : List Bg) : Prop := l.length ≤ 30 ∧ ∀ x ∈ l, x.nm.size ≤ 300 ∧ lightL x.mt = true
set_option maxRecDepth 100000 in
set_option maxHeartbeats 8000000 in
theorem lightg_any (d : Option Addr) (kd : Nat) (l : List Bg) (w : World) (hF : BgL w d l) (hI : ∀ b ∈ l, BgIn w b) :
    Calls Try.prog 25 #[.slice d l.length kd] w fun e w' => (∃ b, e = .returned (.bool b) ∧ (b = true → LtG l)) ∧ Below w.heap.size w w' := by
  obtain ⟨n, hn⟩ : ∃ n, l.length = n := ⟨_, rfl⟩
  have Hn := Lib.hid hn
  have HF := Lib.hid hF
  have HI := Lib.hid hI
  rw [hn]
  clear hn hF hI
  by_cases h30 : n ≤ 30
  · have hlt0 : ¬ (30 : Int) < n := by omega
    have hlt1 : ((30 : Int) < n) = False := eq_false hlt0
    go_enter Try.func25, Try.ntmps25
    go_wp2
    go_loopw [3] (fun vi wr => ∃ k : Nat, k ≤ n ∧ vi = .int .i64 k ∧ (∀ x ∈ l.take k, x.nm.size ≤ 300 ∧ lightL x.mt = true) ∧ Below w.heap.size w wr) (fun vi _ => n - (intOf vi).toNat)
    case atStart => exact ⟨0, Nat.zero_le _, rfl, (fun x h => by simp at h), Below.refl _ _⟩
    case round =>
      obtain ⟨k, hk, rfl, hE, hB⟩ := hrel
      have HB := Lib.hid hB
      by_cases hlt : k < n
      · obtain ⟨b, hb⟩ := mem_at (l := l) (k := k) (by rw [Hn.out]; exact hlt)
        obtain ⟨q, o, rfl, hq, hc⟩ := (HF.out.mono hB) (by rw [Hn.out]; omega)
        have c0 : wr.cell? ⟨q, o + k * 3, none⟩ = some (.string b.nm) := hc k b hb 0 (by decide)
        have c1 : wr.cell? ⟨q, o + k * 3 + 1, none⟩ = some (.slice b.ma b.mt.length b.mk') := hc k b hb 1 (by decide)
        have HL := Lib.hid (lightl_any b.ma b.mk' b.mt wr ((HI.out b (List.mem_of_getElem? hb)).mono hB).mt (HI.out b (List.mem_of_getElem? hb)).ll)
        obtain ⟨z, hz⟩ : ∃ z, lightL b.mt = z := ⟨_, rfl⟩
        rw [hz] at HL
        have HNx := Lib.hid (fun (h1 : b.nm.size ≤ 300) (h2 : z = true) => show ∀ x ∈ l.take (k + 1), x.nm.size ≤ 300 ∧ lightL x.mt = true from fun x hx => by
          rw [List.take_add_one, hb, List.mem_append] at hx
          rcases hx with hx | hx
          · exact hE x hx
          · obtain rfl : x = b := by simpa using hx
            exact ⟨h1, by rw [hz]; exact h2⟩)
        clear hE hB hc hb hz
        by_cases h1 : b.nm.size ≤ 300
        · have hs1 : ((300 : Int) < b.nm.size) = False := eq_false (by omega)
          cases z with
          | true =>
            have HN2 := Lib.hid (HNx.out h1 rfl)
            clear HNx
            go_wp2_with (go_at_call 44; (with_reducible refine HL.out.mono ?_); rintro e w1 ⟨rfl, hb⟩; have HB1 := Lib.hid (HB.out.trans (hb.mono HB.out.size)); clear hb)
            go_roundw
            case rel => exact ⟨k + 1, by omega, by go_num, HN2.out, HB1.out⟩
            case measure => simp [intOf]; omega
          | false =>
            clear HNx
            go_wp2_with (go_at_call 44; (with_reducible refine HL.out.mono ?_); rintro e w1 ⟨rfl, hb⟩; have HB1 := Lib.hid (HB.out.trans (hb.mono HB.out.size)); clear hb)
            refine bodyPost_ret (v := .bool false) (by simp [results, Try.results25, go_sem]) rfl ⟨⟨false, rfl, fun h => nomatch h⟩, HB1.out⟩
        · have hs1 : ((300 : Int) < b.nm.size) = True := eq_true (by omega)
          clear HNx
          go_wp2
          refine bodyPost_ret (v := .bool false) (by simp [results, Try.results25, go_sem]) rfl ⟨⟨false, rfl, fun h => nomatch h⟩, HB.out⟩
      · obtain rfl : k = n := by omega
        have HE := Lib.hid (show LtG l from ⟨by rw [Hn.out]; exact h30, by
          have h9 := hE
          rw [List.take_of_length_le (by rw [Hn.out]; exact Nat.le_refl _)] at h9
          exact h9⟩)
        clear hE hB
        go_wp2
        refine bodyPost_ret (v := .bool true) (by simp [results, Try.results25, go_sem]) rfl ⟨⟨true, rfl, fun _ => HE.out⟩, HB.out⟩
  · have hlt1 : ((30 : Int) < n) = True := eq_true (by omega)
    go_enter Try.func25, Try.ntmps25
    go_wp2
    refine bodyPost_ret (v := .bool false) (by simp [results, Try.results25, go_sem]) rfl ⟨⟨false, rfl, fun h => nomatch h⟩, Below.refl _ _⟩
end Go.Proofs.Ytkmhicoimgpdlaa
