/-
  LexBack: what is shown of a text's tokens has just these, places rise, and lines and columns do.
-/
import Derived.Test.YtpoeaeemjhnkkaaLexT
import Derived.Test.YtpoeaeemjhnkkaaLexR
import Derived.Test.YtpoeaeemjhnkkaaLexZ
import Derived.Test.YtpoeaeemjhnkkaaMA
namespace Go.Proofs.Ytpoeaeemjhnkkaa
open Go.ChangeShapes Go.WideShapes Go.ChangeAt Go.RowKit
set_option linter.unusedVariables false
set_option linter.unusedSimpArgs false
namespace lexBack
theorem pair_at {l : List Tk} (h : l.Pairwise tkAhead) {k : Nat} {x y : Tk} (hx : l[k]? = some x) (hy : l[k + 1]? = some y) : tkAhead x y := by
  obtain ⟨h1, e1⟩ := List.getElem?_eq_some_iff.1 hx
  obtain ⟨h2, e2⟩ := List.getElem?_eq_some_iff.1 hy
  rw [← e1, ← e2]
  exact List.pairwise_iff_getElem.1 h k (k + 1) h1 h2 (by omega)
set_option maxRecDepth 100000 in
set_option maxHeartbeats 4000000 in
theorem walk (s : ByteArray) (w : World) :
    Calls Try.prog 5 #[.string s] w fun e w' => e = .returned (.bool true) ∧ Below w.heap.size w w' := by
  by_cases h : 3000 < s.size
  · have k1 : decide ((3000 : Int) < (s.size : Int)) = true := decide_eq_true (by omega)
    clear h
    go_enter Try.func5, Try.ntmps5
    go_wp2_with (go_at_call 9; (with_reducible refine (known_any _).mono ?_); rintro e w1 ⟨rfl, hb1⟩; have HB1 := Lib.hid hb1; clear hb1)
    go_ret
    exact ⟨rfl, HB1.out⟩
  have k1 : decide ((3000 : Int) < (s.size : Int)) = false := decide_eq_false (by omega)
  have HSa := Lib.hid (fun V => scan_any s V)
  obtain ⟨hok, hpw, herr⟩ := scanB_inv (src := s) (by omega)
  obtain ⟨f1, f2⟩ := scanB_facts (src := s) (by omega)
  have hwt := fun (l : List Tk) => scanB_wt (src := s) (l := l) (by omega)
  obtain ⟨⟨l, e, p⟩, hq⟩ : ∃ q, scanB s = q := ⟨_, rfl⟩
  rw [hq] at HSa hok hpw herr f1 f2 hwt
  by_cases he : e = 0
  · subst he
    obtain rfl : p = 0 := f2 rfl
    have hwt := hwt l rfl
    have hok : ∀ t ∈ l, TkOk t := hok
    have hl : l.length ≤ 9000 := Nat.le_trans (wt_len l) (by omega)
    have hsz := shF_wt l none hok
    obtain ⟨M, hM, hK⟩ := scan_show hok (by omega)
    have HSh := Lib.hid (fun a ka V hF => show_any a ka l V hF (by have : l.length ≤ 2 * s.size + 9 := f1; omega) fun t ht => by have := wt_mem ht; omega)
    obtain ⟨sh, hsh⟩ : ∃ sh, toB (shF none l) = sh := ⟨_, rfl⟩
    rw [hsh] at HSh hM
    have HSb := Lib.hid (fun V => scan_any sh V)
    rw [hM] at HSb
    have hl6 : l.length ≤ 1000000 := by omega
    have HL := Lib.hid hl6
    have HK := Lib.hid hK
    have HPw := Lib.hid (show l.Pairwise tkAhead from hpw)
    clear h hok hpw herr f1 f2 hwt hq hsz hM hK hsh hl6
    go_enter Try.func5, Try.ntmps5
    go_upto_region 9 with (first
      | (go_at_call 18; (with_reducible refine (HSa.out _).mono ?_); rintro e9 w1 ⟨⟨v, rfl, ho⟩, hb⟩; (dsimp only at ho); (obtain ⟨x1, y1, rfl, hn, hT⟩ := own_slice ho); clear ho; have HB1 := Lib.hid hb; have HT1 := Lib.hid hT; clear hb hn hT)
      | (go_at_call 16; (with_reducible refine (HSh.out x1 y1 _ HT1.out).mono ?_); rintro e9 w2 ⟨rfl, hb⟩; have HB2 := Lib.hid (HB1.out.trans (hb.mono HB1.out.size)); have HT2 := Lib.hid (HT1.out.mono hb); clear hb)
      | (go_at_call 18; (with_reducible refine (HSb.out _).mono ?_); rintro e9 w3 ⟨⟨v, rfl, ho⟩, hb⟩; (dsimp only at ho); (obtain ⟨x3, y3, rfl, hn, hT⟩ := own_slice ho); clear ho; have HB3 := Lib.hid (HB2.out.trans (hb.mono HB2.out.size)); have HT3 := Lib.hid (HT2.out.mono hb); have HM3 := Lib.hid hT; clear hb hn hT)
      | (go_at_call 19; (with_reducible refine (same_any x1 y1 l x3 y3 M _ HT3.out HM3.out HL.out HK.out).mono ?_); rintro e9 w4 ⟨rfl, hb⟩; have HB4 := Lib.hid (HB3.out.trans (hb.mono HB3.out.size)); have HT4 := Lib.hid (HT3.out.mono hb); clear hb))
    go_wp2
    go_loopw [9] (fun i wr => ∃ k : Nat, k ≤ l.length ∧ i = .int .i64 ((k + 1 : Nat) : Int) ∧ Below w4.heap.size w4 wr) (fun i _ => l.length + 1 - (intOf i).toNat)
    case atStart => exact ⟨0, by omega, rfl, Below.refl _ _⟩
    case round =>
      obtain ⟨k, hk, rfl, hB⟩ := hrel
      have HB := Lib.hid hB
      have HBw := Lib.hid (HB4.out.trans (hB.mono HB4.out.size))
      have HT := Lib.hid (HT4.out.mono hB)
      by_cases hlt : k + 1 < l.length
      · obtain ⟨x, hx⟩ := mem_at (l := l) (k := k) (by omega)
        obtain ⟨y, hy⟩ := mem_at (l := l) (k := k + 1) (by omega)
        obtain ⟨b1, o1, e1, hb1, hc1⟩ := HT.out (by omega)
        subst e1
        obtain ⟨_, _, c2, c3, c4⟩ := tk_cells (hc1 k x hx)
        obtain ⟨_, _, d2, d3, d4⟩ := tk_cells (hc1 (k + 1) y hy)
        have ha := pair_at HPw.out hx hy
        clear hc1 hx hy hB
        obtain ⟨kx, tx, px, lx, cx⟩ := x
        obtain ⟨ky, ty, py, ly, cy⟩ := y
        unfold tkAhead Ahead at ha
        dsimp only at ha c2 c3 c4 d2 d3 d4
        have q1 : decide (py ≤ px) = false := decide_eq_false (by omega)
        have q2 : decide (ly < lx) = false := decide_eq_false (by omega)
        have hkn : (k : Int) + 1 < (l.length : Int) := by omega
        have hk0 : (0 : Int) ≤ (k : Int) := by omega
        have hkn2 : (k : Int) < (l.length : Int) := by omega
        by_cases hq : ly = lx
        · have q3 : (ly == lx) = true := by simpa using hq
          have q4 : decide (cy ≤ cx) = false := decide_eq_false (by omega)
          clear ha hq
          go_wp2
          go_quiet (fail)
          go_wp2
          go_roundw
          case rel => exact ⟨k + 1, by omega, by go_num, HB.out.trans (by (repeat' (first | with_reducible exact Below.refl _ _ | with_reducible assumption | with_reducible refine Below.drew ?_ | with_reducible refine below_drewN' ?_ _ | with_reducible refine Below.alloc ?_ ?_ _ | with_reducible refine Below.setCell ?_ ?_ _ | with_reducible refine below_step (by assumption) ?_ ?_ | omega | (simp; done) | (simp; omega))))⟩
          case measure => simp [intOf]; omega
        · have q3 : (ly == lx) = false := by simpa using hq
          clear ha hq
          go_wp2
          go_quiet (fail)
          go_wp2
          go_roundw
          case rel => exact ⟨k + 1, by omega, by go_num, HB.out.trans (by (repeat' (first | with_reducible exact Below.refl _ _ | with_reducible assumption | with_reducible refine Below.drew ?_ | with_reducible refine below_drewN' ?_ _ | with_reducible refine Below.alloc ?_ ?_ _ | with_reducible refine Below.setCell ?_ ?_ _ | with_reducible refine below_step (by assumption) ?_ ?_ | omega | (simp; done) | (simp; omega))))⟩
          case measure => simp [intOf]; omega
      · have hge : decide ((k : Int) + 1 < (l.length : Int)) = false := decide_eq_false (by omega)
        clear hB
        go_wp2_with (go_at_call 9; (with_reducible refine (known_any _).mono ?_); rintro e9 w7 ⟨rfl, hb7⟩; have HB7 := Lib.hid (HBw.out.trans (hb7.mono HBw.out.size)); clear hb7)
        go_ret
        exact ⟨rfl, HB7.out⟩
  · obtain ⟨hl0, hp0, hp1⟩ := herr he
    have hl0 : l = [] := hl0
    have hp0 : (0 : Int) ≤ p := hp0
    have hp1 : p ≤ (s.size : Int) := hp1
    subst hl0
    have n1 : (e != 0) = true := by simpa using he
    have d1 : decide ((0 : Int) ≤ p) = true := decide_eq_true hp0
    have d2 : decide (p ≤ (s.size : Int)) = true := decide_eq_true hp1
    clear h hok hpw herr f1 f2 hwt hq he hp0 hp1
    go_enter Try.func5, Try.ntmps5
    go_wp2_with (first
      | (go_at_call 18; (with_reducible refine (HSa.out _).mono ?_); rintro e9 w1 ⟨⟨v, rfl, ho⟩, hb⟩; (dsimp only at ho); (obtain ⟨x1, y1, rfl, hn, hT⟩ := own_slice ho); clear ho; have HB1 := Lib.hid hb; clear hb hn hT)
      | (go_at_call 9; (with_reducible refine (known_any _).mono ?_); rintro e9 w3 ⟨rfl, hb3⟩; have HB3 := Lib.hid (HB1.out.trans (hb3.mono HB1.out.size)); clear hb3))
    go_ret
    exact ⟨rfl, HB3.out⟩

set_option maxRecDepth 100000 in
theorem lifted (os : Os) (started : os.Started) (H : Type) (enc : TypeId × Value → H) :
    ReturnsInHanded {} Try.checked os 5 .any (Rows.lexBackSpec.pre6 enc Try.prog Try.f5 Rows.lexBackRow.domain false) (Rows.lexBackSpec.post enc Try.prog Try.f5 false true false false) := by
  refine returnsInHanded_of_change (C := Try.checked) Try.own started (by kernel_rfl) Try.func5
    (ChangeSpec.witness6 (enc := enc) (C := Try.checked) false ⟨#[], #[.string ⟨#[]⟩], []⟩ 8 (by kernel_rfl) (by kernel_rfl) (by kernel_rfl) (by kernel_rfl)) ?_
  intro W base args ds gs before hval hW _ _
  have hW' := hW
  obtain ⟨p, q, hA, hV, rfl, hfz, hnd⟩ := hW
  rw [Try.params5] at hA hval
  obtain ⟨v0, d0, rfl, rfl, h0⟩ := trodAll_one hA
  obtain ⟨s, rfl, _, _, _⟩ := Go.ChangeMaps.open_string Try.underlying9 (hval 0 9 v0 rfl rfl) h0
  refine (walk s W).mono fun e W' ⟨he, hb⟩ => ?_
  exact ⟨_, he, law_post Try.laidOut hW' rfl (by kernel_rfl) (by kernel_rfl) Try.underlying4 rfl rfl rfl hb⟩

theorem over : Rows.lexBackRow.holds Try.pinned (OpenSpec.ofChange Rows.lexBackSpec) :=
  OpenClaim.holds_of_wide 5 Try.f5 rfl rfl rfl rfl rfl rfl rfl ⟨rfl, rfl, rfl, rfl, rfl⟩ rfl rfl rfl rfl rfl (by kernel_rfl) Try.func5 (by kernel_rfl)
    (of_decide_eq_true (by kernel_rfl)) (by unfold Func.isWrapper; first | (rw [if_pos (by decide +kernel)]; kernel_rfl) | (rw [if_neg (by decide +kernel)]; exact ⟨rfl, rfl⟩))
    (fun os started H enc _ => lifted os started H enc)

/-- The statement. -/
theorem proved : Rows.LexBackSaid := over
end lexBack
end Go.Proofs.Ytpoeaeemjhnkkaa
