/-
  The ledger: what a table says.
-/
import Derived.Test.YtaipiflbigpniaaLd2
namespace Go.Proofs.Ytaipiflbigpniaa
open Go.RowKit
set_option linter.unusedVariables false
set_option linter.unusedSimpArgs false

def okA (x : Ac) : Prop := 0 ≤ x.pr ∧ x.pr ≤ 1125899906842624 ∧ 0 ≤ x.su ∧ x.su ≤ 1125899906842624
theorem okA_find {A : List Ac} (h : ∀ x ∈ A, okA x) (s : ByteArray) : okA (findAc A s) := by
  induction A with
  | nil => exact (⟨by decide, by decide, by decide, by decide⟩ : okA noAc)
  | cons x A ih =>
    unfold findAc
    split
    · exact h x List.mem_cons_self
    · exact ih fun y hy => h y (List.mem_cons_of_mem _ hy)
theorem lsum_any (base b : Nat) (A : List Ac) (v : Value) (tk : Int) (s : ByteArray) (w : World) (h : LT w base b A v tk) (hA : A.length ≤ 1000) (ho : ∀ x ∈ A, okA x) :
    Calls Try.prog 15 #[.pointer (some ⟨b, 0, none⟩), .string s] w fun e w' => e = .returned (.int .i64 (costA (findAc A s))) ∧ Below w.heap.size w w' := by
  have HF := Lib.hid (find_tab base b A v tk s w h (by omega))
  obtain ⟨o1, o2, o3, o4⟩ := okA_find ho s
  have HC := Lib.hid (fun V => cost_any (findAc A s) V o1 o2 o3 o4)
  clear h o1 o2 o3 o4
  go_enter Try.func15, Try.ntmps15
  go_wp2_with (first
    | (go_at_call 29; (with_reducible refine HF.out.mono ?_); rintro e w1 ⟨rfl, hb1⟩; have HB1 := Lib.hid hb1)
    | (go_at_call 30; (with_reducible refine (HC.out _).mono ?_); rintro e w2 ⟨rfl, hb2⟩; have HB2 := Lib.hid (HB1.out.trans (hb2.mono HB1.out.size))))
  go_ret
  exact ⟨rfl, HB2.out⟩
theorem lpeak_any (base b : Nat) (A : List Ac) (v : Value) (tk : Int) (s : ByteArray) (w : World) (h : LT w base b A v tk) (hA : A.length ≤ 1000) :
    Calls Try.prog 17 #[.pointer (some ⟨b, 0, none⟩), .string s] w fun e w' => e = .returned (.int .i64 (findAc A s).pk) ∧ Below w.heap.size w w' := by
  have HF := Lib.hid (find_tab base b A v tk s w h (by omega))
  have i3 := fun s p u k W => (ld_fld s p u k W).2
  clear h
  go_enter Try.func17, Try.ntmps17
  go_wp2_with (go_at_call 29; (with_reducible refine HF.out.mono ?_); rintro e w1 ⟨rfl, hb1⟩; have HB1 := Lib.hid hb1)
  go_ret
  exact ⟨rfl, HB1.out⟩
theorem lticks_any (base b : Nat) (A : List Ac) (v : Value) (tk : Int) (w : World) (h : LT w base b A v tk) :
    Calls Try.prog 23 #[.pointer (some ⟨b, 0, none⟩)] w fun e w' => e = .returned (.int .i64 tk) ∧ w' = w := by
  have c0 : w.cell? ⟨b, 0, none⟩ = some (.pointer (some ⟨b, 0, none⟩)) := h.row.cell 0
  have c2 : w.cell? ⟨b, 2, none⟩ = some (.int .i64 tk) := h.row.cell 2
  clear h
  go_enter Try.func23, Try.ntmps23
  go_wp2_with (go_at_call 27; (with_reducible refine (made_yes b _ c0).mono ?_); rintro e w1 ⟨rfl, rfl⟩)
  go_ret
  exact ⟨rfl, rfl⟩
def totA (A : List Ac) (k : Nat) : Int := (A.take k).foldl (fun t x => min (t + costA x) 1125899906842624) 0
theorem costA_le {x : Ac} (h : okA x) : 0 ≤ costA x ∧ costA x ≤ 1125899906842624 := by
  obtain ⟨o1, o2, o3, o4⟩ := h
  unfold costA
  split
  · exact ⟨by decide, Int.le_refl _⟩
  · rename_i hn
    refine ⟨Int.mul_nonneg o1 o3, ?_⟩
    by_cases hp : 0 < x.pr
    · have hq : ¬ (1125899906842624 : Int).tdiv x.pr < x.su := fun e => hn ⟨hp, e⟩
      rw [Int.tdiv_eq_ediv_of_nonneg (by decide)] at hq
      have := Int.mul_le_of_le_ediv hp (show x.su ≤ 1125899906842624 / x.pr by omega)
      rw [Int.mul_comm]; exact this
    · have : x.pr = 0 := by omega
      rw [this]; simp
theorem totA_step {A : List Ac} {k : Nat} {x : Ac} (h : A[k]? = some x) : totA A (k + 1) = min (totA A k + costA x) 1125899906842624 := by
  unfold totA
  rw [take_at h, List.foldl_append]
  rfl
theorem totA_le {A : List Ac} (ho : ∀ x ∈ A, okA x) : ∀ k, 0 ≤ totA A k ∧ totA A k ≤ 1125899906842624
  | 0 => by unfold totA; simp
  | k + 1 => by
    have ih := totA_le ho k
    by_cases hk : k < A.length
    · obtain ⟨x, hx⟩ := mem_at hk
      have := costA_le (ho x (List.mem_of_getElem? hx))
      rw [totA_step hx]
      omega
    · have e : totA A (k + 1) = totA A k := by
        unfold totA
        rw [List.take_of_length_le (by omega), List.take_of_length_le (by omega)]
      rw [e]
      exact ih
set_option maxRecDepth 100000 in
set_option maxHeartbeats 4000000 in
theorem ltotal_any (base b : Nat) (A : List Ac) (v : Value) (tk : Int) (w : World) (h : LT w base b A v tk) (hA : A.length ≤ 1000) (ho : ∀ x ∈ A, okA x) :
    Calls Try.prog 21 #[.pointer (some ⟨b, 0, none⟩)] w fun e w' => e = .returned (.int .i64 (totA A A.length)) ∧ Below w.heap.size w w' := by
  have Hh := Lib.hid h
  obtain ⟨a, kc, rfl, hc⟩ := h.rows
  have c0 : w.cell? ⟨b, 0, none⟩ = some (.pointer (some ⟨b, 0, none⟩)) := h.row.cell 0
  have c1 : w.cell? ⟨b, 1, none⟩ = some (.slice a A.length kc) := h.row.cell 1
  have hbl := h.row.lt
  obtain ⟨n, hn⟩ : ∃ n, A.length = n := ⟨_, rfl⟩
  have Hn := Lib.hid hn
  have Hc := Lib.hid hc
  have Ho := Lib.hid ho
  rw [hn] at c1 hA ⊢
  clear h hc hn ho
  go_enter Try.func21, Try.ntmps21
  go_wp2_with (go_at_call 27; (with_reducible refine (made_yes b _ c0).mono ?_); rintro e w1 ⟨rfl, rfl⟩)
  obtain ⟨W, hW⟩ : ∃ W, W = w1 := ⟨_, rfl⟩
  have HWe := Lib.hid hW
  rw [← hW] at Hc ⊢
  clear hW
  go_loopw [3, 14] (fun t i wr => ∃ j : Nat, j ≤ n ∧ i = .int .i64 j ∧ t = .int .i64 (totA A j) ∧ Below W.heap.size W wr) (fun _ i _ => n - (intOf i).toNat)
  case atStart => exact ⟨0, Nat.zero_le _, rfl, rfl, Below.refl _ _⟩
  case round =>
    obtain ⟨j, hj, rfl, rfl, hB⟩ := hrel
    obtain ⟨hcB, hfB⟩ := bcell hB
    have hbz := hB.size
    have HB := Lib.hid hB
    by_cases hjn : j < n
    · obtain ⟨g, rfl, hb0, hb1, hc⟩ := Hc.out (by rw [Hn.out]; omega)
      obtain ⟨y, hy⟩ := mem_at (l := A) (k := j) (by rw [Hn.out]; exact hjn)
      obtain ⟨d0, d1, d2, d3⟩ := hc j y hy
      have hgw : g < wr.heap.size := by omega
      have ho := Ho.out y (List.mem_of_getElem? hy)
      obtain ⟨k1, k2⟩ := costA_le ho
      obtain ⟨t1, t2⟩ := totA_le Ho.out j
      obtain ⟨o1, o2, o3, o4⟩ := ho
      have HC := Lib.hid (fun V => cost_any y V o1 o2 o3 o4)
      have Hs := Lib.hid (totA_step hy)
      obtain ⟨cz, hcz⟩ : ∃ z, costA y = z := ⟨_, rfl⟩
      obtain ⟨tz, htz⟩ : ∃ z, totA A j = z := ⟨_, rfl⟩
      rw [hcz] at HC Hs k1 k2
      rw [htz] at Hs t1 t2 ⊢
      have hw9 : IntKind.i64.wrap (tz + cz) = tz + cz := lwrap_in (by omega) (by omega)
      clear hc hy o1 o2 o3 o4 hcz htz
      by_cases hmn : 1125899906842624 < tz + cz
      · have e5 : min (tz + cz) 1125899906842624 = 1125899906842624 := by omega
        go_wp2_with (go_at_call 30; (with_reducible refine (HC.out _).mono ?_); rintro e w2 ⟨rfl, hb2⟩; have HB2 := Lib.hid ((HB.out.alloc hbz _).trans (hb2.mono (le_alloc hbz _))))
        go_roundw
        case rel => exact ⟨j + 1, by omega, by go_num, by rw [Hs.out, e5], HB2.out⟩
        case measure => simp [intOf]; omega
      · have e5 : min (tz + cz) 1125899906842624 = tz + cz := by omega
        go_wp2_with (go_at_call 30; (with_reducible refine (HC.out _).mono ?_); rintro e w2 ⟨rfl, hb2⟩; have HB2 := Lib.hid ((HB.out.alloc hbz _).trans (hb2.mono (le_alloc hbz _))))
        go_roundw
        case rel => exact ⟨j + 1, by omega, by go_num, by rw [Hs.out, e5], HB2.out⟩
        case measure => simp [intOf]; omega
    · obtain rfl : j = n := by omega
      go_wp2
      go_ret
      exact ⟨rfl, by rw [← HWe.out]; exact HB.out⟩
end Go.Proofs.Ytaipiflbigpniaa
