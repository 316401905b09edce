/-
  The contracts of triremeref09.Light (no bound pods) and of the law's known.
-/
import Derived.Test.YtgdankihfnnpaaaDoorGRight
import Derived.Test.YtgdankihfnnpaaaDoorGColl
import Derived.Test.YtgdankihfnnpaaaDoorGNum
namespace Go.Proofs.YtgdankihfnnpaaaDoor
open Go.RowKit
set_option linter.unusedVariables false

def lightY (l : List Mac) : Bool := decide (l.length ≤ 20) && l.all lightM
theorem lightY_iff (l : List Mac) : lightY l = true ↔ l.length ≤ 20 ∧ ∀ m ∈ l, lightM m = true := by
  unfold lightY
  rw [Bool.and_eq_true, decide_eq_true_eq, List.all_eq_true]

set_option maxRecDepth 100000 in
set_option maxHeartbeats 4000000 in
theorem lighty_any (a : Option Addr) (l : List Mac) (ka : Nat) (w : World) (hF : MacL w a l) (hm : l.length ≤ maxLen) (hI : ∀ m ∈ l, MacIn w m) :
    Calls Tryd.prog 8 #[.slice a l.length ka, .slice none 0 0] w fun e w' => e = .returned (.bool (lightY l)) ∧ Below w.heap.size w w' := by
  have HF := Lib.hid hF
  have HI := Lib.hid hI
  clear hF hI
  obtain ⟨n, hln⟩ : ∃ n, l.length = n := ⟨_, rfl⟩
  have Hln := Lib.hid hln
  unfold maxLen at hm
  by_cases h20 : n ≤ 20
  · have hr : lightY l = l.all lightM := by unfold lightY; rw [hln, decide_eq_true h20]; rfl
    rw [hr]
    rw [hln] at hm ⊢
    have k1 : decide ((20 : Int) < (n : Int)) = false := decide_eq_false (by omega)
    clear hr hln
    go_enter Tryd.func8, Tryd.ntmps8
    go_wp2
    go_loopw [5] (fun i wr => ∃ k : Nat, k ≤ n ∧ i = .int .i64 k ∧ l.all lightM = (l.drop k).all lightM ∧ Below w.heap.size w wr) (fun i _ => n - (intOf i).toNat)
    case atStart => exact ⟨0, by omega, rfl, rfl, by (repeat' (first | with_reducible exact Below.refl _ _ | with_reducible assumption | with_reducible refine Below.drew ?_ | with_reducible refine below_drewN' ?_ _ | with_reducible refine Below.alloc ?_ ?_ _ | with_reducible refine Below.setCell ?_ ?_ _ | with_reducible refine below_step (by assumption) ?_ ?_ | omega | (simp; done) | (simp; omega)))⟩
    case round =>
      obtain ⟨j, hj, rfl, hE, hC⟩ := hrel
      obtain ⟨hcC, hfC⟩ := bcell hC
      have hcz := hC.size
      have HE := Lib.hid hE
      have HC := Lib.hid hC
      clear hE
      by_cases hlj : j < n
      · have hkl : j < l.length := by rw [Hln.out]; exact hlj
        obtain ⟨b, off, rfl, hb, hc⟩ := HF.out (by omega)
        have hbw : b < wr.heap.size := by omega
        obtain ⟨c0, c1, c2, c3, c4, c5, c6, c7, c8, c9⟩ := mrow_cells (hc j l[j] (List.getElem?_eq_getElem hkl))
        have hE2 := HE.out
        rw [all_drop hkl] at hE2
        have HIj := Lib.hid ((HI.out l[j] (List.getElem_mem hkl)).mono HC.out)
        obtain ⟨g, hg⟩ : ∃ g, l[j] = g := ⟨_, rfl⟩
        rw [hg] at c0 c1 c2 c3 c4 c5 c6 c7 c8 c9 hE2 HIj
        clear hc hg hkl
        cases h2 : lightM g
        · have Hs := Lib.hid (show l.all lightM = false by rw [hE2, h2, Bool.false_and])
          have H2 := Lib.hid h2
          clear h2 hE2
          go_wp2_with (go_at_call 25; (with_reducible refine (lightm_any g _ HIj.out.here).mono ?_); rw [H2.out]; rintro e w5 ⟨rfl, hb5⟩; have hz5 := hb5.size)
          go_ret
          exact ⟨by rw [Hs.out]; rfl, by (repeat' (first | with_reducible exact Below.refl _ _ | with_reducible assumption | with_reducible refine Below.drew ?_ | with_reducible refine below_drewN' ?_ _ | with_reducible refine Below.alloc ?_ ?_ _ | with_reducible refine Below.setCell ?_ ?_ _ | with_reducible refine below_step (by assumption) ?_ ?_ | omega | (simp; done) | (simp; omega)))⟩
        · have Hs := Lib.hid (show l.all lightM = (l.drop (j + 1)).all lightM by rw [hE2, h2, Bool.true_and])
          have H2 := Lib.hid h2
          clear h2 hE2
          go_wp2_with (go_at_call 25; (with_reducible refine (lightm_any g _ HIj.out.here).mono ?_); rw [H2.out]; rintro e w5 ⟨rfl, hb5⟩; have hz5 := hb5.size)
          go_roundw
          case rel => exact ⟨j + 1, by omega, by go_num, Hs.out, by (repeat' (first | with_reducible exact Below.refl _ _ | with_reducible assumption | with_reducible refine Below.drew ?_ | with_reducible refine below_drewN' ?_ _ | with_reducible refine Below.alloc ?_ ?_ _ | with_reducible refine Below.setCell ?_ ?_ _ | with_reducible refine below_step (by assumption) ?_ ?_ | omega | (simp; done) | (simp; omega)))⟩
          case measure => simp [intOf]; omega
      · obtain rfl : j = n := by omega
        have Hs := Lib.hid (show l.all lightM = true by rw [HE.out, List.drop_eq_nil_of_le (by rw [Hln.out]; exact Nat.le_refl _)]; rfl)
        go_wp2
        go_loopw [6] (fun i wq => i = .int .i64 0 ∧ Below w.heap.size w wq) (fun _ _ => 0)
        case atStart => exact ⟨rfl, by (repeat' (first | with_reducible exact Below.refl _ _ | with_reducible assumption | with_reducible refine Below.drew ?_ | with_reducible refine below_drewN' ?_ _ | with_reducible refine Below.alloc ?_ ?_ _ | with_reducible refine Below.setCell ?_ ?_ _ | with_reducible refine below_step (by assumption) ?_ ?_ | omega | (simp; done) | (simp; omega)))⟩
        case round =>
          obtain ⟨rfl, hD⟩ := hrel
          go_wp2
          go_ret
          exact ⟨by rw [Hs.out]; rfl, by (repeat' (first | with_reducible exact Below.refl _ _ | with_reducible assumption | with_reducible refine Below.drew ?_ | with_reducible refine below_drewN' ?_ _ | with_reducible refine Below.alloc ?_ ?_ _ | with_reducible refine Below.setCell ?_ ?_ _ | with_reducible refine below_step (by assumption) ?_ ?_ | omega | (simp; done) | (simp; omega)))⟩
  · have hr : lightY l = false := by unfold lightY; rw [hln, decide_eq_false h20]; rfl
    rw [hr]
    rw [hln] at hm ⊢
    clear hr hln
    have k1 : decide ((20 : Int) < (n : Int)) = true := decide_eq_true (by omega)
    go_enter Tryd.func8, Tryd.ntmps8
    go_wp2
    go_ret
    exact ⟨rfl, by (repeat' (first | with_reducible exact Below.refl _ _ | with_reducible assumption | with_reducible refine Below.drew ?_ | with_reducible refine below_drewN' ?_ _ | with_reducible refine Below.alloc ?_ ?_ _ | with_reducible refine Below.setCell ?_ ?_ _ | with_reducible refine below_step (by assumption) ?_ ?_ | omega | (simp; done) | (simp; omega)))⟩

/-- The group that known speaks of. -/
def mK : Mac := ⟨emp, ⟨#[103]⟩, 5, 0, 0, 0, 0, none, 0, [], none, 0, [], true⟩
def gK : Gp := ⟨⟨#[103]⟩, 0, 3, mK, 0, 0⟩
theorem mK_in (w : World) : MacIn w mK := ⟨⟨RowsAt.nil, RowsAt.nil, Nat.zero_le _, Nat.zero_le _⟩, fun _ => ⟨rfl, rfl⟩, Nat.le_refl _, fun _ => ⟨rfl, rfl⟩, Nat.le_refl _⟩
theorem grow_len (g : Gp) : (grow g).length = 15 := rfl
theorem mrow_len (m : Mac) : (mrow m).length = 10 := rfl
theorem RowsAt.new2 {α : Type} {enc : α → List Value} {K : Nat} (hk : ∀ x, (enc x).length = K) (w : World) (o : Obj) (l : List α) (t : TypeId) : RowsAt enc K ((w.alloc o).alloc (.cells (l.flatMap enc).toArray t)) (some ⟨w.heap.size + 1, 0, none⟩) l := by
  have h := RowsAt.new hk (w.alloc o) l t
  rw [World.size_alloc] at h
  exact h
theorem gK7 : grpM gK 7 = { mK with nm := ⟨#[103, 45, 55]⟩ } := by
  rw [grpM_in (by decide)]
  have h : nameB ⟨#[103]⟩ 7 = ⟨#[103, 45, 55]⟩ := by
    unfold nameB dgB
    rw [dec_one 7 (by decide)]
    decide +kernel
  show ({ mK with nm := nameB ⟨#[103]⟩ 7 } : Mac) = _
  rw [h]
theorem mK_light : lightM mK = true := by decide +kernel
theorem gK_light1 : lightGs [gK] = true := by decide +kernel
theorem gK_light2 : lightGs [gK, gK] = true := by decide +kernel
theorem gK_right1 : rightGs [gK] = true := by decide +kernel
theorem gK_right2 : rightGs [gK, gK] = false := by decide +kernel
theorem gK_n1 : numG ⟨#[103]⟩ ⟨#[103, 45, 55]⟩ = 7 := by decide +kernel
theorem gK_n2 : numG ⟨#[103]⟩ ⟨#[103, 45, 48, 55]⟩ = 0 := by decide +kernel
theorem gK_n3 : numG ⟨#[103]⟩ ⟨#[104, 45, 55]⟩ = 0 := by decide +kernel
theorem one_g {w : World} {b : Nat} (hF : GpL w (some ⟨b, 0, none⟩) [gK]) : ∀ g ∈ [gK], MacIn w g.like := fun g hg => by
  obtain rfl : g = gK := by simpa using hg
  exact mK_in w
theorem two_g {w : World} {b : Nat} (hF : GpL w (some ⟨b, 0, none⟩) [gK, gK]) : ∀ g ∈ [gK, gK], MacIn w g.like := fun g hg => by
  obtain rfl : g = gK := by simpa using hg
  exact mK_in w
theorem ka_m (w : World) (hT : Tab10 w) : Calls Tryd.prog 19 #[.agg #[.string ⟨#[103]⟩, .int .i64 0, .int .i64 3, .string ⟨#[]⟩, .string ⟨#[103]⟩, .int .i64 5, .int .i64 0, .int .i64 0, .int .i64 0, .int .i64 0, .slice none 0 0, .slice none 0 0, .bool true, .int .i64 0, .int .i64 0], .int .i64 7] w (Gives w (fun v w' => ∃ sl kl st kt, v = .agg #[.string ⟨#[103, 45, 55]⟩, .string ⟨#[103]⟩, .int .i64 5, .int .i64 0, .int .i64 0, .int .i64 0, .int .i64 0, .slice sl 0 kl, .slice st 0 kt, .bool true])) :=
  (machine_any gK 7 w hT (mK_in w) (by decide) (by decide) (by decide)).mono fun e w' h => h.weak fun v w' h => by
    rw [gK7] at h
    obtain ⟨la, lk, ta, tk, rfl, -⟩ := h.at (Nat.zero_le _) (Nat.zero_le _)
    exact ⟨la, lk, ta, tk, rfl⟩
theorem ka_r1 (w : World) (b : Nat) (hF : GpL w (some ⟨b, 0, none⟩) [gK]) : Calls Tryd.prog 10 #[.slice (some ⟨b, 0, none⟩) 1 1] w fun e w' => e = .returned (.bool true) ∧ Below w.heap.size w w' := by
  have h := rightgs_any _ [gK] 1 w hF (one_g hF) gK_light1
  rw [gK_right1] at h
  exact h
theorem ka_r2 (w : World) (b : Nat) (hF : GpL w (some ⟨b, 0, none⟩) [gK, gK]) : Calls Tryd.prog 10 #[.slice (some ⟨b, 0, none⟩) 2 2] w fun e w' => e = .returned (.bool false) ∧ Below w.heap.size w w' := by
  have h := rightgs_any _ [gK, gK] 2 w hF (two_g hF) gK_light2
  rw [gK_right2] at h
  exact h
theorem ka_n1 (w : World) : Calls Tryd.prog 22 #[.agg #[.string ⟨#[103]⟩, .int .i64 0, .int .i64 3, .string ⟨#[]⟩, .string ⟨#[103]⟩, .int .i64 5, .int .i64 0, .int .i64 0, .int .i64 0, .int .i64 0, .slice none 0 0, .slice none 0 0, .bool true, .int .i64 0, .int .i64 0], .string ⟨#[103, 45, 55]⟩] w fun e w' => e = .returned (.int .i64 7) ∧ Below w.heap.size w w' := by
  have h := number_any gK ⟨#[103, 45, 55]⟩ w (by decide)
  rw [show gK.nm = ⟨#[103]⟩ from rfl, gK_n1] at h
  exact h
theorem ka_n2 (w : World) : Calls Tryd.prog 22 #[.agg #[.string ⟨#[103]⟩, .int .i64 0, .int .i64 3, .string ⟨#[]⟩, .string ⟨#[103]⟩, .int .i64 5, .int .i64 0, .int .i64 0, .int .i64 0, .int .i64 0, .slice none 0 0, .slice none 0 0, .bool true, .int .i64 0, .int .i64 0], .string ⟨#[103, 45, 48, 55]⟩] w fun e w' => e = .returned (.int .i64 0) ∧ Below w.heap.size w w' := by
  have h := number_any gK ⟨#[103, 45, 48, 55]⟩ w (by decide)
  rw [show gK.nm = ⟨#[103]⟩ from rfl, gK_n2] at h
  exact h
theorem ka_n3 (w : World) : Calls Tryd.prog 22 #[.agg #[.string ⟨#[103]⟩, .int .i64 0, .int .i64 3, .string ⟨#[]⟩, .string ⟨#[103]⟩, .int .i64 5, .int .i64 0, .int .i64 0, .int .i64 0, .int .i64 0, .slice none 0 0, .slice none 0 0, .bool true, .int .i64 0, .int .i64 0], .string ⟨#[104, 45, 55]⟩] w fun e w' => e = .returned (.int .i64 0) ∧ Below w.heap.size w w' := by
  have h := number_any gK ⟨#[104, 45, 55]⟩ w (by decide)
  rw [show gK.nm = ⟨#[103]⟩ from rfl, gK_n3] at h
  exact h
theorem ka_f1 (w : World) (b : Nat) (hF : GpL w (some ⟨b, 0, none⟩) [gK]) : Calls Tryd.prog 12 #[.slice (some ⟨b, 0, none⟩) 1 1, .string ⟨#[103]⟩] w fun e w' => e = .returned (.int .i64 0) ∧ Below w.heap.size w w' :=
  find_any _ [gK] 1 ⟨#[103]⟩ w hF (by decide)
theorem ka_f2 (w : World) : Calls Tryd.prog 12 #[.slice none 0 0, .string ⟨#[103]⟩] w fun e w' => e = .returned (.int .i64 (-1)) ∧ Below w.heap.size w w' :=
  find_any none [] 0 ⟨#[103]⟩ w RowsAt.nil (by decide)
theorem ka_of (w : World) (b : Nat) (m : Mac) (hm : m.nm = ⟨#[103, 45, 55]⟩) (hg : m.gp = ⟨#[103]⟩) (hF : MacL w (some ⟨b, 0, none⟩) [m]) : Calls Tryd.prog 17 #[.slice (some ⟨b, 0, none⟩) 1 1, .string ⟨#[103]⟩] w (Gives w (fun v w' => ∃ a k, v = .slice a 1 k ∧ TxtL w' a [⟨#[103, 45, 55]⟩])) :=
  (of_any _ 1 [m] ⟨#[103]⟩ w hF (show 1 ≤ 1000000 by decide)).mono fun e w' h => h.weak fun v w' h => by
    have hf : [m].filter (ofG ⟨#[103]⟩) = [m] := by
      rw [List.filter_cons_of_pos (by unfold ofG strB; rw [hg]; rfl)]
      rfl
    rw [hf] at h
    obtain ⟨a, k, rfl, _, hr⟩ := OwnL.isL scs_len (by decide) (OwnL.texts h)
    rw [show [m].map (·.nm) = [⟨#[103, 45, 55]⟩] by rw [← hm]; rfl] at hr
    exact ⟨a, k, rfl, hr⟩
theorem ka_nm (w : World) (b : Nat) (hF : GpL w (some ⟨b, 0, none⟩) [gK]) : Calls Tryd.prog 15 #[.slice (some ⟨b, 0, none⟩) 1 1] w (Gives w (fun v w' => ∃ a k, v = .slice a 1 k ∧ TxtL w' a [⟨#[103]⟩])) :=
  (names_any _ 1 [gK] w hF (by decide : [gK].length ≤ 1000000)).mono fun e w' h => h.weak fun v w' h => by
    rw [filt_allG] at h
    obtain ⟨a, k, rfl, _, hr⟩ := OwnL.isL scs_len (by decide) (OwnL.texts h)
    exact ⟨a, k, rfl, hr⟩
theorem ka_tx (w : World) (a b : Option Addr) (ka : Nat) (t : ByteArray) (hF : TxtL w a [t]) (hG : TxtL w b [t]) : Calls Tryd.prog 14 #[.slice a 1 ka, .slice b 1 1] w fun e w' => e = .returned (.bool true) ∧ Below w.heap.size w w' := by
  have h := texts_any a b ka 1 [t] [t] w hF hG (show 1 ≤ 1000000 by decide) (show 1 ≤ 1000000 by decide)
  rw [decide_eq_true rfl] at h
  exact h

end Go.Proofs.YtgdankihfnnpaaaDoor
