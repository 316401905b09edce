/-
  SimilarShares: how any number of machines is shared among any groups is as the document says, or not at all.
  For every number, and all lists of sizes and greatest sizes, without a condition.
-/
import Derived.Test.YtlgbbfaeclaghaaSimK
import Derived.Test.YtlgbbfaeclaghaaOpen
namespace Go.Proofs.Ytlgbbfaeclaghaa
open Go.ChangeShapes Go.WideShapes Go.ChangeAt Go.RowKit
set_option linter.unusedVariables false
theorem Try.cells3 : Try.prog.cellsOf 3 = 1 := by kernel_rfl

/-- A slice of numbers that came in. -/
theorem open_ints {H : Type} {enc : TypeId × Value → H} {W : World} {base : Nat} {v : Value} {d : DataW H} {p : List MemPlace}
    (hv : Value.okWide Try.prog W .any base 25 v) (h : DataW.Trod enc Try.prog W 0 (fun _ => true) true 25 v d p) :
    ∃ (a : Option Addr) (n k : Nat) (D : Nat → Int), v = .slice a n k ∧ (a = none → n = 0 ∧ k = 0) ∧ IntsAt W a n D := by
  rcases open_rows Try.underlying25 Try.cells3 (by decide) hv h with rfl | ⟨a, cap, rfl⟩ | ⟨b, off, n, cap, rfl, hn, hnc, hcm, hb, hr⟩
  · exact ⟨none, 0, 0, fun _ => 0, rfl, fun _ => ⟨rfl, rfl⟩, fun h => absurd h (Nat.lt_irrefl 0)⟩
  · exact ⟨some a, 0, cap, fun _ => 0, rfl, (fun h => by cases h), fun h => absurd h (Nat.lt_irrefl 0)⟩
  · have hD : ∀ i, ∃ o : Int, i < n → W.cell? ⟨b, off + i, none⟩ = some (.int .i64 o) := by
      intro i
      by_cases hi : i < n
      · obtain ⟨cs, hl, hc, fuel, y, hy⟩ := hr i hi
        match cs, hl with
        | [c0], _ =>
          obtain ⟨m, q0, _⟩ := DataW.trod_int Try.underlying3 hy
          have h0 := hc 0 (by decide)
          refine ⟨m, fun _ => ?_⟩
          rw [show off + i = off + i * 1 + 0 by omega, h0]
          simpa using q0
      · exact ⟨0, fun h => absurd h hi⟩
    obtain ⟨D, hD⟩ := Classical.axiomOfChoice hD
    exact ⟨some ⟨b, off, none⟩, n, cap, D, rfl, fun h => by (cases h), fun _ => ⟨b, off, rfl, hb, fun i hi => hD i hi⟩⟩

def icell (x : Int) : List Value := [.int .i64 x]
theorem icell_len (x : Int) : (icell x).length = 1 := rfl
theorem icell_one (x : Int) : ∀ u ∈ icell x, u.oneCell' = true := by
  intro u hu
  simp only [icell, List.mem_cons, List.not_mem_nil, or_false] at hu
  rcases hu with rfl; rfl
theorem ints_rows {w : World} {b off n : Nat} {D : Nat → Int} (h : ∀ i, i < n → w.cell? ⟨b, off + i, none⟩ = some (.int .i64 (D i))) : ∀ i, i < n → ∀ r, r < 1 → w.cell? ⟨b, off + i * 1 + r, none⟩ = (icell (D i))[r]? := fun i hi r hr => by
  obtain rfl : r = 0 := by omega
  rw [show off + i * 1 + 0 = off + i by omega, h i hi]
  rfl
theorem ints_news {w : World} {a : Option Addr} {n : Nat} {D : Nat → Int} (h : IntsAt w a n D) : ∀ q, a = some q → ∀ j u, (rowF icell D n)[j]? = some u → w.cell? (q.add j) = some u := by
  intro q hq j u hu
  by_cases h0 : 0 < n
  · obtain ⟨b, off, rfl, _, hc⟩ := h h0
    cases hq
    exact rowF_news icell_len (ints_rows hc) j u hu
  · obtain rfl : n = 0 := by omega
    simp [rowF] at hu
theorem ints_own {w : World} {base : Nat} {v : Value} {n : Nat} {D : Nat → Int} (h : w.ownsRow base 3 1 v n (rowF icell D n)) : IsI n D v w := by
  obtain ⟨sp, cap, e, hc⟩ := rowF_own icell_len h (by decide)
  refine ⟨sp, cap, e, fun h0 => ?_⟩
  obtain ⟨b, rfl, _, hlt, h4⟩ := hc h0
  refine ⟨b, 0, rfl, hlt, fun i hi => ?_⟩
  have := h4 i hi 0 (by decide)
  simpa [icell] using this
theorem eqI_self (D : Nat → Int) (n : Nat) : eqI D D n = true := (eqI_iff D D n).2 fun _ _ => rfl
theorem shL_le (N : Int) (n m : Nat) (D F : Nat → Int) (h : n ≤ 40) : shL N n m D F ≤ 1000000 := by unfold shL; split <;> omega
namespace similarShares

set_option maxRecDepth 100000 in
set_option maxHeartbeats 2000000 in
theorem walk_long (N : Int) (a c : Option Addr) (n m ka kc : Nat) (w : World) (h : 10000 < N ∨ 40 < n ∨ 40 < m) :
    Calls Try.prog 4 #[.int .i64 N, .slice a n ka, .slice c m kc] w fun e w' => e = .returned (.bool true) ∧ Below w.heap.size w w' := by
  by_cases h1 : 10000 < N
  · clear h
    go_enter Try.func4, Try.ntmps4
    go_wp2_with (first | (go_at_call 6; refine (known_any _).mono ?_; rintro e w1 ⟨rfl, hb1⟩; obtain ⟨hc1, hf1⟩ := bcell hb1; have hz1 := hb1.size; (try simp at hz1); (try have hza : w.heap.size < w1.heap.size := by omega); (try have hzb : w.heap.size + 1 < w1.heap.size := by omega); (try have hzc : w.heap.size + 1 + 1 < w1.heap.size := by omega); (try have hzd : w.heap.size + 1 + 1 + 1 < w1.heap.size := by omega)))
    go_ret
    exact ⟨rfl, by (repeat' (first | with_reducible exact Below.refl _ _ | with_reducible assumption | with_reducible refine Below.drew ?_ | with_reducible refine below_drewN' ?_ _ | with_reducible refine Below.alloc ?_ ?_ _ | with_reducible refine Below.setCell ?_ ?_ _ | with_reducible refine below_step (by assumption) ?_ ?_ | omega | (simp; done) | (simp; omega)))⟩
  · have e1 : decide (10000 < N) = false := by simpa using h1
    by_cases h2 : 40 < n
    · have e2 : decide ((40 : Int) < (n : Int)) = true := by simp; omega
      clear h h1
      go_enter Try.func4, Try.ntmps4
      go_wp2_with (first | (go_at_call 6; refine (known_any _).mono ?_; rintro e w1 ⟨rfl, hb1⟩; obtain ⟨hc1, hf1⟩ := bcell hb1; have hz1 := hb1.size; (try simp at hz1); (try have hza : w.heap.size < w1.heap.size := by omega); (try have hzb : w.heap.size + 1 < w1.heap.size := by omega); (try have hzc : w.heap.size + 1 + 1 < w1.heap.size := by omega); (try have hzd : w.heap.size + 1 + 1 + 1 < w1.heap.size := by omega)))
      go_ret
      exact ⟨rfl, by (repeat' (first | with_reducible exact Below.refl _ _ | with_reducible assumption | with_reducible refine Below.drew ?_ | with_reducible refine below_drewN' ?_ _ | with_reducible refine Below.alloc ?_ ?_ _ | with_reducible refine Below.setCell ?_ ?_ _ | with_reducible refine below_step (by assumption) ?_ ?_ | omega | (simp; done) | (simp; omega)))⟩
    · have e2 : decide ((40 : Int) < (n : Int)) = false := by simp; omega
      have e3 : decide ((40 : Int) < (m : Int)) = true := by simp; omega
      clear h h1 h2
      go_enter Try.func4, Try.ntmps4
      go_wp2_with (first | (go_at_call 6; refine (known_any _).mono ?_; rintro e w1 ⟨rfl, hb1⟩; obtain ⟨hc1, hf1⟩ := bcell hb1; have hz1 := hb1.size; (try simp at hz1); (try have hza : w.heap.size < w1.heap.size := by omega); (try have hzb : w.heap.size + 1 < w1.heap.size := by omega); (try have hzc : w.heap.size + 1 + 1 < w1.heap.size := by omega); (try have hzd : w.heap.size + 1 + 1 + 1 < w1.heap.size := by omega)))
      go_ret
      exact ⟨rfl, by (repeat' (first | with_reducible exact Below.refl _ _ | with_reducible assumption | with_reducible refine Below.drew ?_ | with_reducible refine below_drewN' ?_ _ | with_reducible refine Below.alloc ?_ ?_ _ | with_reducible refine Below.setCell ?_ ?_ _ | with_reducible refine below_step (by assumption) ?_ ?_ | omega | (simp; done) | (simp; omega)))⟩

set_option maxRecDepth 100000 in
set_option maxHeartbeats 4000000 in
theorem walk_some (N : Int) (a c : Option Addr) (n m ka kc : Nat) (D F : Nat → Int) (w : World) (h1 : N ≤ 10000) (h2 : n ≤ 40) (h3 : m ≤ 40) (hD : IntsAt w a n D) (hF : IntsAt w c m F) (ha : a = none → n = 0 ∧ ka = 0) :
    Calls Try.prog 4 #[.int .i64 N, .slice a n ka, .slice c m kc] w fun e w' => e = .returned (.bool true) ∧ Below w.heap.size w w' := by
  have HD := Lib.hid hD
  have HF := Lib.hid hF
  have Ha := Lib.hid ha
  clear hD hF ha
  have e1 : decide (10000 < N) = false := by simp; omega
  have e2 : decide ((40 : Int) < (n : Int)) = false := by simp; omega
  have e3 : decide ((40 : Int) < (m : Int)) = false := by simp; omega
  obtain ⟨i0, hi, hz0, hz1, hz2⟩ := info_parts Try.info3
  have Hi := Lib.hid hi
  have Hz0 := Lib.hid hz0
  have Hz1 := Lib.hid hz1
  have Hz2 := Lib.hid hz2
  clear hi hz0 hz1 hz2
  have hc3 : 0 + n ≤ maxLen := by unfold maxLen; omega
  have hc4 : (0 + n) * 8 ≤ 140737488355328 := by omega
  go_enter Try.func4, Try.ntmps4
  go_wp2_with (first | (at_builtin; refine wpList_append_src rfl (.tmp 22) (.tmp 23) 25 rfl w.heap.size 3 i0 _ 1 8 Try.underlying25 Hi.out Hz0.out Hz1.out Hz2.out rfl (by decide) _ 0 [] rfl (World.ownsRow_made w #[] 0 (Nat.le_refl w.heap.size) (Nat.zero_le _) rfl) a n ka (rowF icell D n) rfl (rowF_len icell_len _ _) (ints_news (HD.out.mono ((Below.refl _ w).alloc (Nat.le_refl _) _))) Ha.out (rowF_one icell_one _ _) hc3 hc4 (le_alloc (Nat.le_refl w.heap.size) _) ?_; intro v1 w4 hown1 hgrow1; rw [Nat.zero_add, List.nil_append] at hown1; have hb4 := own_below (World.ownsRow_made w #[] 0 (Nat.le_refl w.heap.size) (Nat.zero_le _) rfl : (w.alloc (.cells #[] 3)).ownsRow w.heap.size 3 1 (.slice (some ⟨w.heap.size, 0, none⟩) 0 0) 0 []) ((Below.refl _ w).alloc (Nat.le_refl w.heap.size) _) (le_alloc (Nat.le_refl w.heap.size) _) hgrow1; obtain ⟨s1, k1, rfl, hI⟩ := ints_own hown1; have HI := Lib.hid hI; have hz4 := hb4.size; clear hown1 hgrow1 hI) | (go_at_call 7; refine (share_any N s1 c n m k1 kc D F w4 HI.out (HF.out.mono hb4) (by omega) (by omega) (by omega)).mono ?_; rintro e w5 ⟨r5, k5, rfl, hI5, hb5⟩; have HI5 := Lib.hid hI5; have hz5 := hb5.size; clear hI5) | (go_at_call 9; refine (refshare_any N a c n m ka kc D F w5 (HD.out.mono (by (repeat' (first | with_reducible exact Below.refl _ _ | with_reducible assumption | with_reducible refine Below.drew ?_ | with_reducible refine below_drewN' ?_ _ | with_reducible refine Below.alloc ?_ ?_ _ | with_reducible refine Below.setCell ?_ ?_ _ | with_reducible refine below_step (by assumption) ?_ ?_ | omega | (simp; done) | (simp; omega))))) (HF.out.mono (by (repeat' (first | with_reducible exact Below.refl _ _ | with_reducible assumption | with_reducible refine Below.drew ?_ | with_reducible refine below_drewN' ?_ _ | with_reducible refine Below.alloc ?_ ?_ _ | with_reducible refine Below.setCell ?_ ?_ _ | with_reducible refine below_step (by assumption) ?_ ?_ | omega | (simp; done) | (simp; omega))))) (by omega) (by omega) (by omega)).mono ?_; rintro e w6 ⟨r6, k6, rfl, hI6, hb6⟩; have HI6 := Lib.hid hI6; have hz6 := hb6.size; clear hI6) | (go_at_call 8; (with_reducible refine (ints_any r5 r6 (shL N n m D F) (shL N n m D F) k5 k6 (shF D F n N.toNat) (fun j => shF D F n N.toNat j) w6 (HI5.out.mono hb6) HI6.out (shL_le _ _ _ _ _ h2) (shL_le _ _ _ _ _ h2)).mono ?_); rintro e w7 ⟨rfl, hb7⟩; have hz7 := hb7.size; rw [show (decide (shL N n m D F = shL N n m D F) && eqI (shF D F n N.toNat) (fun j => shF D F n N.toNat j) (shL N n m D F)) = true by rw [eqI_self]; simp]) | (go_at_call 8; (with_reducible refine (ints_any s1 a n n k1 ka D D w7 (HI.out.mono (by (repeat' (first | with_reducible exact Below.refl _ _ | with_reducible assumption | with_reducible refine Below.drew ?_ | with_reducible refine below_drewN' ?_ _ | with_reducible refine Below.alloc ?_ ?_ _ | with_reducible refine Below.setCell ?_ ?_ _ | with_reducible refine below_step (by assumption) ?_ ?_ | omega | (simp; done) | (simp; omega))))) (HD.out.mono (by (repeat' (first | with_reducible exact Below.refl _ _ | with_reducible assumption | with_reducible refine Below.drew ?_ | with_reducible refine below_drewN' ?_ _ | with_reducible refine Below.alloc ?_ ?_ _ | with_reducible refine Below.setCell ?_ ?_ _ | with_reducible refine below_step (by assumption) ?_ ?_ | omega | (simp; done) | (simp; omega))))) (by omega) (by omega)).mono ?_); rintro e w8 ⟨rfl, hb8⟩; have hz8 := hb8.size; rw [show (decide (n = n) && eqI D D n) = true by rw [eqI_self]; simp]) | (go_at_call 6; refine (known_any _).mono ?_; rintro e w1 ⟨rfl, hb1⟩; obtain ⟨hc1, hf1⟩ := bcell hb1; have hz1 := hb1.size; (try simp at hz1); (try have hza : w.heap.size < w1.heap.size := by omega); (try have hzb : w.heap.size + 1 < w1.heap.size := by omega); (try have hzc : w.heap.size + 1 + 1 < w1.heap.size := by omega); (try have hzd : w.heap.size + 1 + 1 + 1 < w1.heap.size := by omega)))
  go_ret
  exact ⟨rfl, by (repeat' (first | with_reducible exact Below.refl _ _ | with_reducible assumption | with_reducible refine Below.drew ?_ | with_reducible refine below_drewN' ?_ _ | with_reducible refine Below.alloc ?_ ?_ _ | with_reducible refine Below.setCell ?_ ?_ _ | with_reducible refine below_step (by assumption) ?_ ?_ | omega | (simp; done) | (simp; omega)))⟩

theorem walk {H : Type} {enc : TypeId × Value → H} {W : World} {base : Nat} {v u : Value} {d f : DataW H} {p q : List MemPlace} (N : Int) (hN : N ≤ 9223372036854775807)
    (hv : Value.okWide Try.prog W .any base 25 v) (h : DataW.Trod enc Try.prog W 0 (fun _ => true) true 25 v d p)
    (hu : Value.okWide Try.prog W .any base 25 u) (k : DataW.Trod enc Try.prog W 0 (fun _ => true) true 25 u f q) :
    Calls Try.prog 4 #[.int .i64 N, v, u] W fun e W' => e = .returned (.bool true) ∧ Below W.heap.size W W' := by
  obtain ⟨a, n, ka, D, rfl, ha, hD⟩ := open_ints hv h
  obtain ⟨c, m, kc, F, rfl, _, hF⟩ := open_ints hu k
  by_cases hg : 10000 < N ∨ 40 < n ∨ 40 < m
  · exact walk_long N a c n m ka kc W hg
  · exact walk_some N a c n m ka kc D F W (by omega) (by omega) (by omega) hD hF ha

set_option maxRecDepth 100000 in
theorem lifted (os : Os) (started : os.Started) (H : Type) (enc : TypeId × Value → H) :
    ReturnsInHanded {} Try.checked os 4 .any (Rows.similarSharesSpec.pre6 enc Try.prog Try.f4 Rows.similarSharesRow.domain false) (Rows.similarSharesSpec.post enc Try.prog Try.f4 false true false false) := by
  refine returnsInHanded_of_change (C := Try.checked) Try.own started (by kernel_rfl) Try.func4
    (ChangeSpec.witness6 (enc := enc) (C := Try.checked) false ⟨#[], #[.int .i64 0, .slice none 0 0, .slice none 0 0], []⟩ 8 (by kernel_rfl) (by kernel_rfl) (by kernel_rfl) (by kernel_rfl)) ?_
  intro W base args ds gs before hval hW _ _
  have hW' := hW
  obtain ⟨p, q, hA, hV, rfl, hfz, hnd⟩ := hW
  rw [Try.params4] at hA hval
  obtain ⟨v0, v1, v2, d0, d1, d2, p0, p1, p2, rfl, rfl, rfl, h0, h1, h2⟩ := trodAll_three hA
  obtain ⟨n, rfl, _, _, wn⟩ := open_int Try.underlying3 (hval 0 3 v0 rfl rfl) h0
  refine (walk n (by have h9 := wn; simp [Lit.wf, IntKind.bits, IntKind.signed] at h9; omega) (hval 1 25 v1 rfl rfl) h1 (hval 2 25 v2 rfl rfl) h2).mono fun e W' ⟨he, hb⟩ => ?_
  exact ⟨_, he, law_post Try.laidOut hW' rfl (by kernel_rfl) (by kernel_rfl) Try.underlying4 rfl rfl rfl hb⟩

theorem over : Rows.similarSharesRow.holds Try.pinned (OpenSpec.ofChange Rows.similarSharesSpec) :=
  OpenClaim.holds_of_wide 4 Try.f4 rfl rfl rfl rfl rfl rfl rfl ⟨rfl, rfl, rfl, rfl, rfl⟩ rfl rfl rfl rfl rfl (by kernel_rfl) Try.func4 (by kernel_rfl)
    (of_decide_eq_true (by kernel_rfl)) (by unfold Func.isWrapper; first | (rw [if_pos (by decide +kernel)]; kernel_rfl) | (rw [if_neg (by decide +kernel)]; exact ⟨rfl, rfl⟩))
    (fun os started H enc _ => lifted os started H enc)

/-- The statement. -/
theorem proved : Rows.SimilarSharesSaid := over
end similarShares
end Go.Proofs.Ytlgbbfaeclaghaa
