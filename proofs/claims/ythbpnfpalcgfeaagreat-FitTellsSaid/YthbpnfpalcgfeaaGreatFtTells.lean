/-
  FitTells: where a pod can run, why not elsewhere, and whether all are where they can be, is as the document says.
-/
import Derived.Test.YthbpnfpalcgfeaaGreatFrH
import Derived.Test.YthbpnfpalcgfeaaGreatFtR
import Derived.ChangeKeysEq
namespace Go.Proofs.YthbpnfpalcgfeaaGreat
open Go.ChangeShapes Go.WideShapes Go.ChangeAt Go.RowKit
set_option linter.unusedVariables false
set_option linter.unusedSimpArgs false
namespace fitTells

theorem eql_nine (a0 a1 a2 a3 a4 a5 a6 a7 a8 : Int) (w : World) : (binOp .eql 41 (.agg #[.int .i64 a0, .int .i64 a1, .int .i64 a2, .int .i64 a3, .int .i64 a4, .int .i64 a5, .int .i64 a6, .int .i64 a7, .int .i64 a8]) (.agg #[.int .i64 a0, .int .i64 a1, .int .i64 a2, .int .i64 a3, .int .i64 a4, .int .i64 a5, .int .i64 a6, .int .i64 a7, .int .i64 a8])).run Tryz.prog w = .ok (.bool true) w := by
  have hui := Tryz.underlying3
  have hai := Tryz.isAgg3
  have hzi := Tryz.sizeOf3
  obtain ⟨i, hi⟩ := info_of_underlying Tryz.underlying3
  have hc : Tryz.prog.cellsOf 3 = 1 := by kernel_rfl
  rw [run_eql_struct, show (10000 : Nat) = 9999 + 1 from rfl, run_equalIn_array w 9999 _ _ Tryz.underlying41 hi, hc, show List.range 9 = [0, 1, 2, 3, 4, 5, 6, 7, 8] from rfl]
  simp only [Op.eqItems]
  go_simp
theorem guard_nine (op : BinOp) (x y : Operand) (xs ys : Array Value) (w : World) : (eqGuard op 41 x y (.agg xs) (.agg ys)).run Tryz.prog w = .ok () w := run_eqGuard_agg w op _ x y xs ys (by kernel_rfl)
theorem ftexts_same (a b : Option Addr) (ka kb : Nat) (L : List ByteArray) (w : World) (hF : TxtL w a L) (hG : TxtL w b L) (hL : L.length ≤ 1000000) :
    Calls Tryz.prog 8 #[.slice a L.length ka, .slice b L.length kb] w fun e w' => e = .returned (.bool true) ∧ Below w.heap.size w w' := by
  have h := texts_any a b ka kb L L w hF hG hL hL
  rwa [decide_eq_true rfl] at h
set_option maxRecDepth 100000 in
set_option maxHeartbeats 16000000 in
theorem walk1 (a : Option Addr) (ka : Nat) (ms : List Mac) (c : Option Addr) (kc : Nat) (bs : List Bd) (p : Pd) (w : World) (hF : MacL w a ms) (hG : BndL w c bs) (hA : ∀ m ∈ ms, MacIn w m) (hB : ∀ b ∈ bs, BndIn w b) (hP : PodAt w p) (hl : ms.length ≤ maxLen) (hl2 : bs.length ≤ maxLen) :
    Calls Tryz.prog 3 #[.slice a ms.length ka, .slice c bs.length kc, .agg (prow p).toArray] w fun e w' => e = .returned (.bool true) ∧ Below w.heap.size w w' := by
  obtain ⟨W, hW⟩ : ∃ W, W = (w.alloc (.cells #[.string (p).nm, .int .i64 (p).n0, .int .i64 (p).n1, .int .i64 (p).n2, .int .i64 (p).n3, .int .i64 (p).n4, .slice (p).la (p).labs.length (p).lk, .slice (p).sa (p).sels.length (p).sk, .slice (p).ta (p).trms.length (p).tk, .slice (p).ba (p).bers.length (p).bk, .slice (p).pa (p).prts.length (p).pk, .slice (p).aa (p).aprs.length (p).ak, .bool (p).wd, .slice (p).da (p).spds.length (p).dk, .int .i64 (p).sw, .int .i64 (p).rk, .string (p).ow, .bool (p).dm, .bool (p).pn, .bool (p).lc] 31)) := ⟨_, rfl⟩
  have hX : Box w.heap.size (prow p) W := by rw [hW]; exact (Box.new w (prow p) 31)
  have hbw : Below w.heap.size w W := by rw [hW]; (repeat' (first | with_reducible exact Below.refl _ _ | with_reducible assumption | with_reducible refine Below.drew ?_ | with_reducible refine below_drewN' ?_ _ | with_reducible refine Below.alloc ?_ ?_ _ | with_reducible refine Below.setCell ?_ ?_ _ | with_reducible refine below_step (by assumption) ?_ ?_ | omega | (simp; done) | (simp; omega)))
  have HB := Lib.hid hbw
  have HX := Lib.hid hX
  have HRt := Lib.hid (fun V (hV : Below w.heap.size w V) => fright_any a c ka kc ms bs p V (hF.mono hV) (hG.mono hV) (fun m hm => (hA m hm).mono hV) (fun b hb => (hB b hb).mono hV) (hP.mono hV) hl hl2)
  have HRp := Lib.hid (fun V (h : Box w.heap.size (prow p) V) => show V.rangeAt w.heap.size 0 [.string (p).nm, .int .i64 (p).n0, .int .i64 (p).n1, .int .i64 (p).n2, .int .i64 (p).n3, .int .i64 (p).n4, .slice (p).la (p).labs.length (p).lk, .slice (p).sa (p).sels.length (p).sk, .slice (p).ta (p).trms.length (p).tk, .slice (p).ba (p).bers.length (p).bk, .slice (p).pa (p).prts.length (p).pk, .slice (p).aa (p).aprs.length (p).ak, .bool (p).wd, .slice (p).da (p).spds.length (p).dk, .int .i64 (p).sw, .int .i64 (p).rk, .string (p).ow, .bool (p).dm, .bool (p).pn, .bool (p).lc] from h.range)
  obtain ⟨g, hg⟩ : ∃ g, rightF ms bs p = g := ⟨_, rfl⟩
  rw [hg] at HRt
  obtain ⟨N, hN⟩ : ∃ N, bs.length = N := ⟨_, rfl⟩
  obtain ⟨n, hn⟩ : ∃ n, ms.length = n := ⟨_, rfl⟩
  rw [hn, hN] at HRt ⊢
  have HRt := Lib.hid (show ∀ V, Below w.heap.size w V → Calls Tryz.prog 4 #[.slice a n ka, .slice c N kc, .agg #[.string (p).nm, .int .i64 (p).n0, .int .i64 (p).n1, .int .i64 (p).n2, .int .i64 (p).n3, .int .i64 (p).n4, .slice (p).la (p).labs.length (p).lk, .slice (p).sa (p).sels.length (p).sk, .slice (p).ta (p).trms.length (p).tk, .slice (p).ba (p).bers.length (p).bk, .slice (p).pa (p).prts.length (p).pk, .slice (p).aa (p).aprs.length (p).ak, .bool (p).wd, .slice (p).da (p).spds.length (p).dk, .int .i64 (p).sw, .int .i64 (p).rk, .string (p).ow, .bool (p).dm, .bool (p).pn, .bool (p).lc]] V fun e w' => e = .returned (.bool g) ∧ Below V.heap.size V w' from HRt.out)
  show Calls Tryz.prog 3 #[.slice a n ka, .slice c N kc, .agg #[.string (p).nm, .int .i64 (p).n0, .int .i64 (p).n1, .int .i64 (p).n2, .int .i64 (p).n3, .int .i64 (p).n4, .slice (p).la (p).labs.length (p).lk, .slice (p).sa (p).sels.length (p).sk, .slice (p).ta (p).trms.length (p).tk, .slice (p).ba (p).bers.length (p).bk, .slice (p).pa (p).prts.length (p).pk, .slice (p).aa (p).aprs.length (p).ak, .bool (p).wd, .slice (p).da (p).spds.length (p).dk, .int .i64 (p).sw, .int .i64 (p).rk, .string (p).ow, .bool (p).dm, .bool (p).pn, .bool (p).lc]] w _
  cases g with
  | false =>
    clear hg hX hbw hF hG hA hB hP hl hl2 hN hn
    go_enter Tryz.func3, Tryz.ntmps3
    go_upto_region 1 with (fail)
    rw [← hW]
    clear hW
    go_wp2_with (first
      | ((with_reducible refine at_load (ty := 31) ?_); refine load_cells rfl 31 (.tmp 5) rfl w.heap.size 0 rfl [.string (p).nm, .int .i64 (p).n0, .int .i64 (p).n1, .int .i64 (p).n2, .int .i64 (p).n3, .int .i64 (p).n4, .slice (p).la (p).labs.length (p).lk, .slice (p).sa (p).sels.length (p).sk, .slice (p).ta (p).trms.length (p).tk, .slice (p).ba (p).bers.length (p).bk, .slice (p).pa (p).prts.length (p).pk, .slice (p).aa (p).aprs.length (p).ak, .bool (p).wd, .slice (p).da (p).spds.length (p).dk, .int .i64 (p).sw, .int .i64 (p).rk, .string (p).ow, .bool (p).dm, .bool (p).pn, .bool (p).lc] _ Tryz.underlying31 rfl (by kernel_rfl) (HRp.out _ HX.out) ?_)
      | (go_at_call 4; (with_reducible refine (HRt.out _ HB.out).mono ?_); rintro e w1 ⟨rfl, hb⟩; have HB1 := Lib.hid (HB.out.trans (hb.mono HB.out.size)); clear hb)
      | (go_at_call 5; (with_reducible refine (fknown_any _).mono ?_); rintro e w2 ⟨rfl, hb⟩; have HB2 := Lib.hid (HB1.out.trans (hb.mono HB1.out.size)); clear hb))
    go_ret
    exact ⟨rfl, HB2.out⟩
  | true =>
    obtain ⟨hly, hlp, hck, hrp⟩ := rightF_iff hg
    have hyq := yq_of hck
    have hpq := pq_of hrp
    have H0 := Lib.hid (show SF w a ms c bs p W from ⟨ya_of (hF.mono hbw) (hG.mono hbw) (fun m hm => (hA m hm).mono hbw) (fun b hb => (hB b hb).mono hbw) hly, hX, hP.mono hbw, hbw⟩)
    have hnb := H0.out.ya.mm
    rw [hn] at hnb
    have HW1 := Lib.hid (show ∀ (x : ByteArray) V, SF w a ms c bs p V → Calls Tryz.prog 6 #[.slice a n ka, .slice c N kc, .agg #[.string (p).nm, .int .i64 (p).n0, .int .i64 (p).n1, .int .i64 (p).n2, .int .i64 (p).n3, .int .i64 (p).n4, .slice (p).la (p).labs.length (p).lk, .slice (p).sa (p).sels.length (p).sk, .slice (p).ta (p).trms.length (p).tk, .slice (p).ba (p).bers.length (p).bk, .slice (p).pa (p).prts.length (p).pk, .slice (p).aa (p).aprs.length (p).ak, .bool (p).wd, .slice (p).da (p).spds.length (p).dk, .int .i64 (p).sw, .int .i64 (p).rk, .string (p).ow, .bool (p).dm, .bool (p).pn, .bool (p).lc], .string x] V fun e w' => e = .returned (.int .i64 (whyF ms bs p x)) ∧ Below V.heap.size V w' from fun x V hV => by
      have h9 := fwhy_any a c ka kc ms bs p x V hV.ya hV.pa hlp
      rw [hn, hN] at h9
      exact h9)
    have HW2 := Lib.hid (show ∀ (x : ByteArray) V, SF w a ms c bs p V → Calls Tryz.prog 7 #[.slice a n ka, .slice c N kc, .agg #[.string (p).nm, .int .i64 (p).n0, .int .i64 (p).n1, .int .i64 (p).n2, .int .i64 (p).n3, .int .i64 (p).n4, .slice (p).la (p).labs.length (p).lk, .slice (p).sa (p).sels.length (p).sk, .slice (p).ta (p).trms.length (p).tk, .slice (p).ba (p).bers.length (p).bk, .slice (p).pa (p).prts.length (p).pk, .slice (p).aa (p).aprs.length (p).ak, .bool (p).wd, .slice (p).da (p).spds.length (p).dk, .int .i64 (p).sw, .int .i64 (p).rk, .string (p).ow, .bool (p).dm, .bool (p).pn, .bool (p).lc], .string x] V fun e w' => e = .returned (.int .i64 (whyF ms bs p x)) ∧ Below V.heap.size V w' from fun x V hV => by
      have h9 := refwhy_any a c ka kc ms bs p x V hV.ya hV.pa hlp hyq hpq
      rw [hn, hN] at h9
      exact h9)
    have HA1 := Lib.hid (show ∀ V, SF w a ms c bs p V → Calls Tryz.prog 9 #[.slice a n ka, .slice c N kc, .agg #[.string (p).nm, .int .i64 (p).n0, .int .i64 (p).n1, .int .i64 (p).n2, .int .i64 (p).n3, .int .i64 (p).n4, .slice (p).la (p).labs.length (p).lk, .slice (p).sa (p).sels.length (p).sk, .slice (p).ta (p).trms.length (p).tk, .slice (p).ba (p).bers.length (p).bk, .slice (p).pa (p).prts.length (p).pk, .slice (p).aa (p).aprs.length (p).ak, .bool (p).wd, .slice (p).da (p).spds.length (p).dk, .int .i64 (p).sw, .int .i64 (p).rk, .string (p).ow, .bool (p).dm, .bool (p).pn, .bool (p).lc]] V fun e w' => (∃ v, e = .returned v ∧ IsL scs 1 (whereF ms bs p) v w') ∧ Below V.heap.size V w' from fun V hV => by
      have h9 := where_any a c ka kc ms bs p V hV.ya hV.pa hlp
      rw [hn, hN] at h9
      refine h9.mono fun e w' h => ?_
      obtain ⟨⟨v, rfl, hv⟩, hb⟩ := h
      exact ⟨⟨v, rfl, IsL.of_own scs_len (by decide) hv⟩, hb⟩)
    have HA2 := Lib.hid (show ∀ V, SF w a ms c bs p V → Calls Tryz.prog 10 #[.slice a n ka, .slice c N kc, .agg #[.string (p).nm, .int .i64 (p).n0, .int .i64 (p).n1, .int .i64 (p).n2, .int .i64 (p).n3, .int .i64 (p).n4, .slice (p).la (p).labs.length (p).lk, .slice (p).sa (p).sels.length (p).sk, .slice (p).ta (p).trms.length (p).tk, .slice (p).ba (p).bers.length (p).bk, .slice (p).pa (p).prts.length (p).pk, .slice (p).aa (p).aprs.length (p).ak, .bool (p).wd, .slice (p).da (p).spds.length (p).dk, .int .i64 (p).sw, .int .i64 (p).rk, .string (p).ow, .bool (p).dm, .bool (p).pn, .bool (p).lc]] V fun e w' => (∃ v, e = .returned v ∧ IsL scs 1 (whereF ms bs p) v w') ∧ Below V.heap.size V w' from fun V hV => by
      have h9 := refwhere_any a c ka kc ms bs p V hV.ya hV.pa hlp hyq hpq
      rw [hn, hN] at h9
      refine h9.mono fun e w' h => ?_
      obtain ⟨⟨v, rfl, hv⟩, hb⟩ := h
      exact ⟨⟨v, rfl, IsL.of_own scs_len (by decide) hv⟩, hb⟩)
    have HT1 := Lib.hid (show ∀ V, SF w a ms c bs p V → Calls Tryz.prog 11 #[.slice a n ka, .slice c N kc, .agg #[.string (p).nm, .int .i64 (p).n0, .int .i64 (p).n1, .int .i64 (p).n2, .int .i64 (p).n3, .int .i64 (p).n4, .slice (p).la (p).labs.length (p).lk, .slice (p).sa (p).sels.length (p).sk, .slice (p).ta (p).trms.length (p).tk, .slice (p).ba (p).bers.length (p).bk, .slice (p).pa (p).prts.length (p).pk, .slice (p).aa (p).aprs.length (p).ak, .bool (p).wd, .slice (p).da (p).spds.length (p).dk, .int .i64 (p).sw, .int .i64 (p).rk, .string (p).ow, .bool (p).dm, .bool (p).pn, .bool (p).lc]] V fun e w' => e = .returned (.agg #[.int .i64 (tc (whyL ms bs p) 0 : Nat), .int .i64 (tc (whyL ms bs p) 1 : Nat), .int .i64 (tc (whyL ms bs p) 2 : Nat), .int .i64 (tc (whyL ms bs p) 3 : Nat), .int .i64 (tc (whyL ms bs p) 4 : Nat), .int .i64 (tc (whyL ms bs p) 5 : Nat), .int .i64 (tc (whyL ms bs p) 6 : Nat), .int .i64 (tc (whyL ms bs p) 7 : Nat), .int .i64 (tc (whyL ms bs p) 8 : Nat)]) ∧ Below V.heap.size V w' from fun V hV => by
      have h9 := tally_any a c ka kc ms bs p V hV.ya hV.pa hlp
      rw [hn, hN] at h9
      exact h9)
    have HT2 := Lib.hid (show ∀ V, SF w a ms c bs p V → Calls Tryz.prog 12 #[.slice a n ka, .slice c N kc, .agg #[.string (p).nm, .int .i64 (p).n0, .int .i64 (p).n1, .int .i64 (p).n2, .int .i64 (p).n3, .int .i64 (p).n4, .slice (p).la (p).labs.length (p).lk, .slice (p).sa (p).sels.length (p).sk, .slice (p).ta (p).trms.length (p).tk, .slice (p).ba (p).bers.length (p).bk, .slice (p).pa (p).prts.length (p).pk, .slice (p).aa (p).aprs.length (p).ak, .bool (p).wd, .slice (p).da (p).spds.length (p).dk, .int .i64 (p).sw, .int .i64 (p).rk, .string (p).ow, .bool (p).dm, .bool (p).pn, .bool (p).lc]] V fun e w' => e = .returned (.agg #[.int .i64 (tc (whyL ms bs p) 0 : Nat), .int .i64 (tc (whyL ms bs p) 1 : Nat), .int .i64 (tc (whyL ms bs p) 2 : Nat), .int .i64 (tc (whyL ms bs p) 3 : Nat), .int .i64 (tc (whyL ms bs p) 4 : Nat), .int .i64 (tc (whyL ms bs p) 5 : Nat), .int .i64 (tc (whyL ms bs p) 6 : Nat), .int .i64 (tc (whyL ms bs p) 7 : Nat), .int .i64 (tc (whyL ms bs p) 8 : Nat)]) ∧ Below V.heap.size V w' from fun V hV => by
      have h9 := reftally_any a c ka kc ms bs p V hV.ya hV.pa hlp hyq hpq
      rw [hn, hN] at h9
      exact h9)
    have HF1 := Lib.hid (show ∀ V, SF w a ms c bs p V → Calls Tryz.prog 13 #[.slice a n ka, .slice c N kc] V fun e w' => e = .returned (.bool (feasF ms bs)) ∧ Below V.heap.size V w' from fun V hV => by
      have h9 := feas_any a c ka kc ms bs V hV.ya
      rw [hn, hN] at h9
      exact h9)
    have HF2 := Lib.hid (show ∀ V, SF w a ms c bs p V → Calls Tryz.prog 14 #[.slice a n ka, .slice c N kc] V fun e w' => e = .returned (.bool (feasF ms bs)) ∧ Below V.heap.size V w' from fun V hV => by
      have h9 := reffeas_any a c ka kc ms bs V hV.ya hyq
      rw [hn, hN] at h9
      exact h9)
    have hzl := where_len ms bs p
    obtain ⟨L, hL⟩ : ∃ L, whyL ms bs p = L := ⟨_, rfl⟩
    obtain ⟨Z, hZ⟩ : ∃ Z, whereF ms bs p = Z := ⟨_, rfl⟩
    obtain ⟨F, hFe⟩ : ∃ F, feasF ms bs = F := ⟨_, rfl⟩
    rw [hZ, hn] at hzl
    rw [hL] at HT1 HT2
    rw [hZ] at HA1 HA2
    rw [hFe] at HF1 HF2
    have Hn := Lib.hid hn
    clear hg hX hbw hF hG hA hB hP hl hl2 hN hn hly hlp hck hrp hL hZ hFe hyq hpq
    go_enter Tryz.func3, Tryz.ntmps3
    go_upto_region 1 with (fail)
    rw [← hW]
    clear hW
    go_wp2_with (first
      | ((with_reducible refine at_load (ty := 31) ?_); refine load_cells rfl 31 (.tmp 5) rfl w.heap.size 0 rfl [.string (p).nm, .int .i64 (p).n0, .int .i64 (p).n1, .int .i64 (p).n2, .int .i64 (p).n3, .int .i64 (p).n4, .slice (p).la (p).labs.length (p).lk, .slice (p).sa (p).sels.length (p).sk, .slice (p).ta (p).trms.length (p).tk, .slice (p).ba (p).bers.length (p).bk, .slice (p).pa (p).prts.length (p).pk, .slice (p).aa (p).aprs.length (p).ak, .bool (p).wd, .slice (p).da (p).spds.length (p).dk, .int .i64 (p).sw, .int .i64 (p).rk, .string (p).ow, .bool (p).dm, .bool (p).pn, .bool (p).lc] _ Tryz.underlying31 rfl (by kernel_rfl) H0.out.rng ?_)
      | (go_at_call 4; (with_reducible refine (HRt.out _ HB.out).mono ?_); rintro e w1 ⟨rfl, hb⟩; have H1 := Lib.hid (H0.out.mono hb); clear hb))
    clear H0 HB HX HRp HRt
    go_loopw [7] (fun vi wr => ∃ k : Nat, k ≤ n ∧ vi = .int .i64 k ∧ SF w a ms c bs p wr) (fun vi _ => n - (intOf vi).toNat)
    case atStart => exact ⟨0, Nat.zero_le _, rfl, H1.out⟩
    case round =>
      clear H1
      obtain ⟨k, hk, rfl, hS⟩ := hrel
      have HS := Lib.hid hS
      have hlx := HS.out.bx.lt
      have HRx := Lib.hid HS.out.rng
      clear hS
      by_cases hlt : k < n
      · obtain ⟨m, hm⟩ := mem_at (l := ms) (k := k) (by rw [Hn.out]; exact hlt)
        obtain ⟨q, o, rfl, hq, hc⟩ := HS.out.ya.ml (by rw [Hn.out]; omega)
        have c0 : wr.cell? ⟨q, o + k * 10, none⟩ = some (.string m.nm) := hc k m hm 0 (by decide)
        have HM1 := Lib.hid (HW1.out m.nm)
        have HM2 := Lib.hid (HW2.out m.nm)
        obtain ⟨r9, hr⟩ : ∃ r, whyF ms bs p m.nm = r := ⟨_, rfl⟩
        rw [hr] at HM1 HM2
        clear hr hc hm HW1 HW2 HA1 HA2 HT1 HT2 HF1 HF2
        go_upto_region 6 with (fail)
        have hcH := held_cell
        refine region_rel (by kernel_rfl) (by kernel_rfl) ?_
        repeat
          ((with_reducible refine relStep (fun K hK => ?_))
           (have HK := Lib.hid hK)
           clear hK
           (apply relInl
            · intro r n hf
              have Hf := Lib.hid hf
              clear hf
              (first
                | (((with_reducible refine at_rel (ty := 31) ?_); refine rel_load rfl w.heap.size 0 rfl _ _ Tryz.underlying31 rfl (by kernel_rfl) (rangeAt_mono HRx.out hlx n.below) rfl))
                | (unfold relAt
                   go_simp
                   (first | (refine relUpon_val ?_ (Below.refl _ _); exact rfl) | exact rfl | (refine relUpon_enter ?_; (first | (go_at_call 6; (with_reducible refine (HM1.out _ (HS.out.mono n.below)).mono ?_); rintro e w9 ⟨rfl, hb⟩; exact ⟨⟨_, rfl, rfl⟩, hb⟩) | (go_at_call 7; (with_reducible refine (HM2.out _ (HS.out.mono n.below)).mono ?_); rintro e w9 ⟨rfl, hb⟩; exact ⟨⟨_, rfl, rfl⟩, hb⟩))))))
            (simp only [Act.put, List.setIfInBounds_toArray, List.set_cons_zero, List.set_cons_succ])
            (with_reducible refine HK.out _ _ ?_)
            clear HK K))
        refine relNil ?_
        intro r9 n9 hx9
        clear hcH
        (try simp only [List.nil_append, List.cons_append, List.mem_cons, List.not_mem_nil, or_false, forall_eq_or_imp, forall_eq, false_implies, implies_true] at hx9)
        obtain ⟨w9, hb9⟩ := n9
        (try dsimp only)
        obtain ⟨hc9, hf9⟩ := bcell hb9
        have hz9 := hb9.size
        (try simp at hz9)
        have HS9 := Lib.hid (HS.out.mono hb9)
        clear hb9 hc9 hf9 hz9 c0
        go_wp2
        go_roundw
        case rel => exact ⟨k + 1, by omega, by go_num, HS9.out⟩
        case measure => simp [intOf]; omega
      · obtain rfl : k = n := by omega
        have HZl := Lib.hid (show Z.length ≤ 1000000 by omega)
        have hqe := fun w => eql_nine (tc L 0 : Nat) (tc L 1 : Nat) (tc L 2 : Nat) (tc L 3 : Nat) (tc L 4 : Nat) (tc L 5 : Nat) (tc L 6 : Nat) (tc L 7 : Nat) (tc L 8 : Nat) w
        have hge := guard_nine
        clear HW1 HW2 hzl
        go_upto_region 8 with (fail)
        have hcH := held_cell
        refine region_rel (by kernel_rfl) (by kernel_rfl) ?_
        repeat
          ((with_reducible refine relStep (fun K hK => ?_))
           (have HK := Lib.hid hK)
           clear hK
           (apply relInl
            · intro r n hf
              have Hf := Lib.hid hf
              clear hf
              (first
                | (((with_reducible refine at_rel (ty := 31) ?_); refine rel_load rfl w.heap.size 0 rfl _ _ Tryz.underlying31 rfl (by kernel_rfl) (rangeAt_mono HRx.out hlx n.below) rfl))
                | (unfold relAt
                   go_simp
                   (first | (refine relUpon_val ?_ (Below.refl _ _); exact rfl) | exact rfl | (refine relUpon_enter ?_; fail))))
            (simp only [Act.put, List.setIfInBounds_toArray, List.set_cons_zero, List.set_cons_succ])
            (with_reducible refine HK.out _ _ ?_)
            clear HK K))
        (with_reducible refine relStep (fun K hK => ?_))
        (have HK := Lib.hid hK)
        clear hK
        refine relInr (IsL scs 1 Z) (IsL.stays _) (fun r n hf => ?_) ?_
        · have Hf := Lib.hid hf
          clear hf HK K
          unfold relAt
          (skip)
          go_simp
          ((refine relUpon_enter ?_; go_at_call 9; (with_reducible refine (HA1.out _ (HS.out.mono n.below)).mono ?_); rintro e w9 ⟨⟨v, rfl, hv⟩, hb⟩; exact ⟨⟨_, rfl, hv⟩, hb⟩))
        (simp only [Act.put, List.setIfInBounds_toArray, List.set_cons_zero, List.set_cons_succ])
        (with_reducible refine HK.out _ _ ?_)
        clear HK K
        repeat
          ((with_reducible refine relStep (fun K hK => ?_))
           (have HK := Lib.hid hK)
           clear hK
           (apply relInl
            · intro r n hf
              have Hf := Lib.hid hf
              clear hf
              (first
                | (((with_reducible refine at_rel (ty := 31) ?_); refine rel_load rfl w.heap.size 0 rfl _ _ Tryz.underlying31 rfl (by kernel_rfl) (rangeAt_mono HRx.out hlx n.below) rfl))
                | (unfold relAt
                   go_simp
                   (first | (refine relUpon_val ?_ (Below.refl _ _); exact rfl) | exact rfl | (refine relUpon_enter ?_; fail))))
            (simp only [Act.put, List.setIfInBounds_toArray, List.set_cons_zero, List.set_cons_succ])
            (with_reducible refine HK.out _ _ ?_)
            clear HK K))
        (with_reducible refine relStep (fun K hK => ?_))
        (have HK := Lib.hid hK)
        clear hK
        refine relInr (IsL scs 1 Z) (IsL.stays _) (fun r n hf => ?_) ?_
        · have Hf := Lib.hid hf
          clear hf HK K
          unfold relAt
          (skip)
          go_simp
          ((refine relUpon_enter ?_; go_at_call 10; (with_reducible refine (HA2.out _ (HS.out.mono n.below)).mono ?_); rintro e w9 ⟨⟨v, rfl, hv⟩, hb⟩; exact ⟨⟨_, rfl, hv⟩, hb⟩))
        (simp only [Act.put, List.setIfInBounds_toArray, List.set_cons_zero, List.set_cons_succ])
        (with_reducible refine HK.out _ _ ?_)
        clear HK K
        ((with_reducible refine relStep (fun K hK => ?_))
         (have HK := Lib.hid hK)
         clear hK
         (apply relInl
          · intro r n hf
            have Hf := Lib.hid hf
            clear hf
            ((obtain ⟨a1, k1, e1, _, g1⟩ := given_at Hf.out 0 rfl (by dsimp only; decide +kernel); obtain ⟨a2, k2, e2, _, g2⟩ := given_at Hf.out 1 rfl (by dsimp only; decide +kernel); dsimp only at e1 e2; unfold relAt; go_simp; refine relUpon_enter ?_; go_at_call 8; (try rw [e1, e2]); (with_reducible refine (ftexts_same a1 a2 k1 k2 Z _ g1 g2 HZl.out).mono ?_); rintro e w9 ⟨rfl, hb⟩; exact ⟨⟨_, rfl, rfl⟩, hb⟩)))
         (simp only [Act.put, List.setIfInBounds_toArray, List.set_cons_zero, List.set_cons_succ])
         (with_reducible refine HK.out _ _ ?_)
         clear HK K)
        repeat
          ((with_reducible refine relStep (fun K hK => ?_))
           (have HK := Lib.hid hK)
           clear hK
           (apply relInl
            · intro r n hf
              have Hf := Lib.hid hf
              clear hf
              (first
                | (((with_reducible refine at_rel (ty := 31) ?_); refine rel_load rfl w.heap.size 0 rfl _ _ Tryz.underlying31 rfl (by kernel_rfl) (rangeAt_mono HRx.out hlx n.below) rfl))
                | (unfold relAt
                   go_simp
                   (first | (refine relUpon_val ?_ (Below.refl _ _); exact rfl) | exact rfl | (refine relUpon_enter ?_; (first
                  | (go_at_call 11; (with_reducible refine (HT1.out _ (HS.out.mono n.below)).mono ?_); rintro e w9 ⟨rfl, hb⟩; exact ⟨⟨_, rfl, rfl⟩, hb⟩)
                  | (go_at_call 12; (with_reducible refine (HT2.out _ (HS.out.mono n.below)).mono ?_); rintro e w9 ⟨rfl, hb⟩; exact ⟨⟨_, rfl, rfl⟩, hb⟩)
                  | (go_at_call 13; (with_reducible refine (HF1.out _ (HS.out.mono n.below)).mono ?_); rintro e w9 ⟨rfl, hb⟩; exact ⟨⟨_, rfl, rfl⟩, hb⟩)
                  | (go_at_call 14; (with_reducible refine (HF2.out _ (HS.out.mono n.below)).mono ?_); rintro e w9 ⟨rfl, hb⟩; exact ⟨⟨_, rfl, rfl⟩, hb⟩)
                  | (go_at_call 5; (with_reducible refine (fknown_any _).mono ?_); rintro e w9 ⟨rfl, hb⟩; exact ⟨⟨_, rfl, rfl⟩, hb⟩))))))
            (simp only [Act.put, List.setIfInBounds_toArray, List.set_cons_zero, List.set_cons_succ])
            (with_reducible refine HK.out _ _ ?_)
            clear HK K))
        refine relNil ?_
        intro r9 n9 hx9
        clear hcH
        (try simp only [List.nil_append, List.cons_append, List.mem_cons, List.not_mem_nil, or_false, forall_eq_or_imp, forall_eq, false_implies, implies_true] at hx9)
        obtain ⟨w9, hb9⟩ := n9
        (try dsimp only)
        obtain ⟨hc9, hf9⟩ := bcell hb9
        have hz9 := hb9.size
        (try simp at hz9)
        have HS9 := Lib.hid (HS.out.mono hb9)
        go_wp2
        go_ret
        exact ⟨by first | rfl | trivial, HS9.out.bl⟩
set_option maxRecDepth 100000 in
theorem walk {H : Type} {enc : TypeId × Value → H} {W : World} {base : Nat} {v u x : Value} {d e f : DataW H} {p q r : List MemPlace}
    (hv : Value.okWide Tryz.prog W .any base 22 v) (h : DataW.Trod enc Tryz.prog W 0 (fun _ => true) true 22 v d p)
    (hu : Value.okWide Tryz.prog W .any base 23 u) (h2 : DataW.Trod enc Tryz.prog W 0 (fun _ => true) true 23 u e q)
    (hx : Value.okWide Tryz.prog W .any base 31 x) (h3 : DataW.Trod enc Tryz.prog W 0 (fun _ => true) true 31 x f r) :
    Calls Tryz.prog 3 #[v, u, x] W fun e W' => e = .returned (.bool true) ∧ Below W.heap.size W W' := by
  obtain ⟨a, l, k, rfl, -, hF, hm, -, hI⟩ := open_macs hv h
  obtain ⟨c, l2, k2, rfl, -, hG, hm2, -, hI2⟩ := open_bnds hu h2
  obtain ⟨m, rfl, hP⟩ := open_pod hx h3
  exact walk1 a k l c k2 l2 m W hF hG hI hI2 hP.here hm hm2

set_option maxRecDepth 100000 in
theorem lifted (os : Os) (started : os.Started) (H : Type) (enc : TypeId × Value → H) :
    ReturnsInHanded {} Tryz.checked os 3 .any (Rows.fitTellsSpec.pre6 enc Tryz.prog Tryz.f3 Rows.fitTellsRow.domain false) (Rows.fitTellsSpec.post enc Tryz.prog Tryz.f3 false true false false) := by
  refine returnsInHanded_of_change (C := Tryz.checked) Tryz.own started (by kernel_rfl) Tryz.func3
    (ChangeSpec.witness6 (enc := enc) (C := Tryz.checked) false ⟨#[], #[.slice none 0 0, .slice none 0 0, .agg #[.string ⟨#[]⟩, .int .i64 0, .int .i64 0, .int .i64 0, .int .i64 0, .int .i64 0, .slice none 0 0, .slice none 0 0, .slice none 0 0, .slice none 0 0, .slice none 0 0, .slice none 0 0, .bool false, .slice none 0 0, .int .i64 0, .int .i64 0, .string ⟨#[]⟩, .bool false, .bool false, .bool false]], []⟩ 8 (by kernel_rfl) (by kernel_rfl) (by kernel_rfl) (by kernel_rfl)) ?_
  intro W base args ds gs before hval hW _ _
  have hW' := hW
  obtain ⟨p, q, hA, hV, rfl, hfz, hnd⟩ := hW
  rw [Tryz.params3] at hA hval
  obtain ⟨v0, v1, v2, d0, d1, d2, p0, p1, p2, rfl, rfl, rfl, h0, h1, h2⟩ := trodAll_three hA
  refine (walk (hval 0 22 v0 rfl rfl) h0 (hval 1 23 v1 rfl rfl) h1 (hval 2 31 v2 rfl rfl) h2).mono fun e W' ⟨he, hb⟩ => ?_
  exact ⟨_, he, law_post Tryz.laidOut hW' rfl (by kernel_rfl) (by kernel_rfl) Tryz.underlying4 rfl rfl rfl hb⟩

theorem over : Rows.fitTellsRow.holds Tryz.pinned (OpenSpec.ofChange Rows.fitTellsSpec) :=
  OpenClaim.holds_of_wide 3 Tryz.f3 rfl rfl rfl rfl rfl rfl rfl ⟨rfl, rfl, rfl, rfl, rfl⟩ rfl rfl rfl rfl rfl (by kernel_rfl) Tryz.func3 (by kernel_rfl)
    (of_decide_eq_true (by kernel_rfl)) (by unfold Func.isWrapper; first | (rw [if_pos (by decide +kernel)]; kernel_rfl) | (rw [if_neg (by decide +kernel)]; exact ⟨rfl, rfl⟩))
    (fun os started H enc _ => lifted os started H enc)

/-- The statement. -/
theorem proved : Rows.FitTellsSaid := over
end fitTells
end Go.Proofs.YthbpnfpalcgfeaaGreat
