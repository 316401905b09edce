/-
  FitReady: where no machine is ready nothing fits; a pod whose need is greater than what each machine has fits nowhere.
-/
import Derived.Test.YthbpnfpalcgfeaaFtR
import Derived.Test.YthbpnfpalcgfeaaSLp
namespace Go.Proofs.Ythbpnfpalcgfeaa
open Go.ChangeShapes Go.WideShapes Go.ChangeAt Go.RowKit
set_option linter.unusedVariables false
set_option linter.unusedSimpArgs false
namespace fitReady

theorem Try.info35 : (Try.prog.info? 35).map (fun i => (i.zero, i.size, i.bytes)) = some (some (.agg #[.string ⟨#[]⟩, .string ⟨#[]⟩, .int .i64 0, .int .i64 0, .int .i64 0, .int .i64 0, .int .i64 0, .slice none 0 0, .slice none 0 0, .bool false]), 10, 128) := by kernel_rfl
theorem mrow_ones (m : Mac) : ∀ u ∈ mrow m, u.oneCell' = true := by
  intro u hu
  simp only [mrow, List.mem_cons, List.not_mem_nil, or_false] at hu
  rcases hu with rfl | rfl | rfl | rfl | rfl | rfl | rfl | rfl | rfl | rfl <;> rfl
def mDn (m : Mac) : Mac := { m with rd := false }
def pG (p : Pd) : Pd := { p with n1 := 1125899906842624 }
theorem mDn_in {w : World} {m : Mac} (h : MacIn w m) : MacIn w (mDn m) := ⟨⟨h.here.labs, h.here.tnts, h.here.ll, h.here.tl⟩, h.ln, h.lc, h.tn, h.tc⟩
theorem pG_at {w : World} {p : Pd} (h : PodAt w p) : PodAt w (pG p) := ⟨h.labs, h.sels, h.trms, h.trmA, h.bers, h.prts, h.aprs, h.spds, h.ll, h.sl, h.tl, h.bl, h.pl, h.al, h.dl⟩
theorem down_why {ms : List Mac} {bs : List Bd} {p : Pd} {x : ByteArray} (h : x ∈ (ms.map mDn).map Mac.nm) : whyF (ms.map mDn) bs p x = 1 := by
  unfold whyF
  cases hm : mOf (ms.map mDn) x with
  | none => rfl
  | some m =>
    have h1 : m ∈ ms.map mDn := by unfold mOf at hm; exact List.mem_of_find?_eq_some hm
    obtain ⟨y, _, rfl⟩ := List.mem_map.1 h1
    have hs : suitS (mDn y) bs p = 1 := rfl
    show (if suitS (mDn y) bs p = 0 then apartW (ms.map mDn) bs p x else suitS (mDn y) bs p) = 1
    rw [hs]
    rfl
theorem down_why2 (ms : List Mac) (bs : List Bd) (p : Pd) : ∀ m ∈ ms.map mDn, whyF (ms.map mDn) bs p m.nm = 1 := fun m hm => down_why (List.mem_map_of_mem hm)
theorem down_where (ms : List Mac) (bs : List Bd) (p : Pd) : whereF (ms.map mDn) bs p = [] := by
  unfold whereF
  rw [List.map_eq_nil_iff, List.filter_eq_nil_iff]
  intro m hm
  rw [down_why2 ms bs p m hm]
  decide
theorem down_tally (ms : List Mac) (bs : List Bd) (p : Pd) : tc (whyL (ms.map mDn) bs p) 1 = ms.length := by
  unfold tc
  rw [List.filter_eq_self.2]
  · rw [whyL_len, List.length_map]
  · intro x hx
    unfold whyL at hx
    obtain ⟨m, hm, rfl⟩ := List.mem_map.1 hx
    rw [down_why2 ms bs p m hm]
    rfl
theorem right_mac {ms : List Mac} {bs : List Bd} (h : checkY ms bs = 0) {m : Mac} (hm : m ∈ ms) : rt5 (hasM m) = true := by
  obtain ⟨_, h2, _⟩ := check_zero h
  have h3 := List.all_eq_true.1 h2 m hm
  unfold okM rightM at h3
  simp only [Bool.and_eq_true] at h3
  exact h3.2.1.1.2
theorem mOf_at {ms : List Mac} {bs : List Bd} (h : checkY ms bs = 0) {k : Nat} {m : Mac} (hm : ms[k]? = some m) : mOf ms m.nm = some m := by
  obtain ⟨_, _, h3, _⟩ := check_zero h
  have h4 := find_once h3 (nm_at hm)
  rcases find_cases ms m.nm with ⟨h5, _⟩ | ⟨i, y, h5, h6, _, h7⟩
  · omega
  · obtain rfl : i = k := by omega
    rw [hm] at h6
    obtain rfl := Option.some.inj h6
    exact h7
theorem left_le {m : Mac} (hm : rt5 (hasM m) = true) (l : List Bd) : (leftY m l).r1 ≤ m.r1 := by
  unfold leftY
  have hh := (rtB_iff _ _ _ _ _).1 hm
  by_cases hu : (usedY l m.nm).1 = 0
  · rw [if_pos hu, left_plain hm (usedY_right hu)]
    have ha := (rtB_iff _ _ _ _ _).1 (usedY_right hu)
    have h0 := minI_le (hasM m).r1 (usedY l m.nm).2.r1
    show (hasM m).r1 - minI (hasM m).r1 (usedY l m.nm).2.r1 ≤ (hasM m).r1
    have : 0 ≤ minI (hasM m).r1 (usedY l m.nm).2.r1 := by
      unfold minI
      split <;> omega
    omega
  · rw [if_neg hu]
    show 0 ≤ (hasM m).r1
    omega
theorem great_no {ms : List Mac} {bs : List Bd} {p : Pd} (h : checkY ms bs = 0) {k : Nat} {m : Mac} (hm : ms[k]? = some m) (hr : m.r1 < 1125899906842624) : ¬ whyF ms bs (pG p) m.nm = 0 := by
  unfold whyF
  rw [mOf_at h hm]
  dsimp only
  have hs : ¬ suitS m bs (pG p) = 0 := fun hs => by
    unfold suitS at hs
    split at hs
    · unfold roomS at hs
      split at hs
      · cases hs
      · rename_i hf
        rw [Bool.not_eq_false] at hf
        have hf := (fits_iff (needP (pG p)) (leftY m (othL bs m.nm (pG p).nm))).1 hf
        have h1 := hf.2.2.2.1
        have h2 := left_le (right_mac h (List.mem_of_getElem? hm)) (othL bs m.nm (pG p).nm)
        have h3 : (needP (pG p)).r1 = 1125899906842624 := rfl
        omega
    · rename_i hp
      exact hp hs
  rw [if_neg hs]
  exact hs
set_option maxRecDepth 100000 in
set_option maxHeartbeats 8000000 in
theorem walk1 (a : Option Addr) (ka : Nat) (ms : List Mac) (c : Option Addr) (kc : Nat) (bs : List Bd) (p : Pd) (w : World) (hF : MacL w a ms) (hG : BndL w c bs) (hA : ∀ m ∈ ms, MacIn w m) (hB : ∀ b ∈ bs, BndIn w b) (hP : PodAt w p) (hl : ms.length ≤ maxLen) (hl2 : bs.length ≤ maxLen) :
    Calls Try.prog 11 #[.slice a ms.length ka, .slice c bs.length kc, .agg (prow p).toArray] w fun e w' => e = .returned (.bool true) ∧ Below w.heap.size w w' := by
  obtain ⟨W, hW⟩ : ∃ W, W = (w.alloc (.cells #[.string (p).nm, .int .i64 (p).n0, .int .i64 (p).n1, .int .i64 (p).n2, .int .i64 (p).n3, .int .i64 (p).n4, .slice (p).la (p).labs.length (p).lk, .slice (p).sa (p).sels.length (p).sk, .slice (p).ta (p).trms.length (p).tk, .slice (p).ba (p).bers.length (p).bk, .slice (p).pa (p).prts.length (p).pk, .slice (p).aa (p).aprs.length (p).ak, .bool (p).wd, .slice (p).da (p).spds.length (p).dk, .int .i64 (p).sw, .int .i64 (p).rk, .string (p).ow, .bool (p).dm, .bool (p).pn, .bool (p).lc] 47)) := ⟨_, rfl⟩
  have hX : Box w.heap.size (prow p) W := by rw [hW]; exact (Box.new w (prow p) 47)
  have hbw : Below w.heap.size w W := by rw [hW]; (repeat' (first | with_reducible exact Below.refl _ _ | with_reducible assumption | with_reducible refine Below.drew ?_ | with_reducible refine below_drewN' ?_ _ | with_reducible refine Below.alloc ?_ ?_ _ | with_reducible refine Below.setCell ?_ ?_ _ | with_reducible refine below_step (by assumption) ?_ ?_ | omega | (simp; done) | (simp; omega)))
  have HB := Lib.hid hbw
  have HX := Lib.hid hX
  have HRt := Lib.hid (fun V (hV : Below w.heap.size w V) => fright_any a c ka kc ms bs p V (hF.mono hV) (hG.mono hV) (fun m hm => (hA m hm).mono hV) (fun b hb => (hB b hb).mono hV) (hP.mono hV) hl hl2)
  have HRp := Lib.hid (fun V (h : Box w.heap.size (prow p) V) => show V.rangeAt w.heap.size 0 [.string (p).nm, .int .i64 (p).n0, .int .i64 (p).n1, .int .i64 (p).n2, .int .i64 (p).n3, .int .i64 (p).n4, .slice (p).la (p).labs.length (p).lk, .slice (p).sa (p).sels.length (p).sk, .slice (p).ta (p).trms.length (p).tk, .slice (p).ba (p).bers.length (p).bk, .slice (p).pa (p).prts.length (p).pk, .slice (p).aa (p).aprs.length (p).ak, .bool (p).wd, .slice (p).da (p).spds.length (p).dk, .int .i64 (p).sw, .int .i64 (p).rk, .string (p).ow, .bool (p).dm, .bool (p).pn, .bool (p).lc] from h.range)
  obtain ⟨g, hg⟩ : ∃ g, rightF ms bs p = g := ⟨_, rfl⟩
  rw [hg] at HRt
  obtain ⟨N, hN⟩ : ∃ N, bs.length = N := ⟨_, rfl⟩
  obtain ⟨n, hn⟩ : ∃ n, ms.length = n := ⟨_, rfl⟩
  rw [hn, hN] at HRt ⊢
  have HRt := Lib.hid (show ∀ V, Below w.heap.size w V → Calls Try.prog 34 #[.slice a n ka, .slice c N kc, .agg #[.string (p).nm, .int .i64 (p).n0, .int .i64 (p).n1, .int .i64 (p).n2, .int .i64 (p).n3, .int .i64 (p).n4, .slice (p).la (p).labs.length (p).lk, .slice (p).sa (p).sels.length (p).sk, .slice (p).ta (p).trms.length (p).tk, .slice (p).ba (p).bers.length (p).bk, .slice (p).pa (p).prts.length (p).pk, .slice (p).aa (p).aprs.length (p).ak, .bool (p).wd, .slice (p).da (p).spds.length (p).dk, .int .i64 (p).sw, .int .i64 (p).rk, .string (p).ow, .bool (p).dm, .bool (p).pn, .bool (p).lc]] V fun e w' => e = .returned (.bool g) ∧ Below V.heap.size V w' from HRt.out)
  show Calls Try.prog 11 #[.slice a n ka, .slice c N kc, .agg #[.string (p).nm, .int .i64 (p).n0, .int .i64 (p).n1, .int .i64 (p).n2, .int .i64 (p).n3, .int .i64 (p).n4, .slice (p).la (p).labs.length (p).lk, .slice (p).sa (p).sels.length (p).sk, .slice (p).ta (p).trms.length (p).tk, .slice (p).ba (p).bers.length (p).bk, .slice (p).pa (p).prts.length (p).pk, .slice (p).aa (p).aprs.length (p).ak, .bool (p).wd, .slice (p).da (p).spds.length (p).dk, .int .i64 (p).sw, .int .i64 (p).rk, .string (p).ow, .bool (p).dm, .bool (p).pn, .bool (p).lc]] w _
  cases g with
  | false =>
    clear hg hX hbw hF hG hA hB hP hl hl2 hN hn
    go_enter Try.func11, Try.ntmps11
    go_upto_region 1 with (fail)
    rw [← hW]
    clear hW
    go_wp2_with (first
      | ((with_reducible refine at_load (ty := 47) ?_); refine load_cells rfl 47 (.tmp 5) rfl w.heap.size 0 rfl [.string (p).nm, .int .i64 (p).n0, .int .i64 (p).n1, .int .i64 (p).n2, .int .i64 (p).n3, .int .i64 (p).n4, .slice (p).la (p).labs.length (p).lk, .slice (p).sa (p).sels.length (p).sk, .slice (p).ta (p).trms.length (p).tk, .slice (p).ba (p).bers.length (p).bk, .slice (p).pa (p).prts.length (p).pk, .slice (p).aa (p).aprs.length (p).ak, .bool (p).wd, .slice (p).da (p).spds.length (p).dk, .int .i64 (p).sw, .int .i64 (p).rk, .string (p).ow, .bool (p).dm, .bool (p).pn, .bool (p).lc] _ Try.underlying47 rfl (by kernel_rfl) (HRp.out _ HX.out) ?_)
      | (go_at_call 34; (with_reducible refine (HRt.out _ HB.out).mono ?_); rintro e w1 ⟨rfl, hb⟩; have HB1 := Lib.hid (HB.out.trans (hb.mono HB.out.size)); clear hb)
      | (go_at_call 35; (with_reducible refine (fknown_any _).mono ?_); rintro e w2 ⟨rfl, hb⟩; have HB2 := Lib.hid (HB1.out.trans (hb.mono HB1.out.size)); clear hb))
    go_ret
    exact ⟨rfl, HB2.out⟩
  | true =>
    obtain ⟨hly, hlp, hck, hrp⟩ := rightF_iff hg
    have H0 := Lib.hid (show SF w a ms c bs p W from ⟨ya_of (hF.mono hbw) (hG.mono hbw) (fun m hm => (hA m hm).mono hbw) (fun b hb => (hB b hb).mono hbw) hly, hX, hP.mono hbw, hbw⟩)
    have hnb := H0.out.ya.mm
    rw [hn] at hnb
    have Hn := Lib.hid hn
    have HGr0 := Lib.hid (show ∀ V, SF w a ms c bs p V → ∀ x, Calls Try.prog 38 #[.slice a n ka, .slice c N kc, .agg #[.string (p).nm, .int .i64 (p).n0, .int .i64 1125899906842624, .int .i64 (p).n2, .int .i64 (p).n3, .int .i64 (p).n4, .slice (p).la (p).labs.length (p).lk, .slice (p).sa (p).sels.length (p).sk, .slice (p).ta (p).trms.length (p).tk, .slice (p).ba (p).bers.length (p).bk, .slice (p).pa (p).prts.length (p).pk, .slice (p).aa (p).aprs.length (p).ak, .bool (p).wd, .slice (p).da (p).spds.length (p).dk, .int .i64 (p).sw, .int .i64 (p).rk, .string (p).ow, .bool (p).dm, .bool (p).pn, .bool (p).lc], .string x] V fun e w' => e = .returned (.int .i64 (whyF ms bs (pG p) x)) ∧ Below V.heap.size V w' from fun V hV x => by
      have h9 := fwhy_any a c ka kc ms bs (pG p) x V hV.ya (pG_at hV.pa) hlp
      rw [hn, hN] at h9
      exact h9)
    have HNo := Lib.hid (fun (k : Nat) (m : Mac) (hm : ms[k]? = some m) (hr : m.r1 < 1125899906842624) => great_no (bs := bs) (p := p) hck hm hr)
    have HTa := Lib.hid (show ∀ V ad kd, SF w a ms c bs p V → MacL V ad (ms.map mDn) → Calls Try.prog 36 #[.slice ad n kd, .slice c N kc, .agg #[.string (p).nm, .int .i64 (p).n0, .int .i64 (p).n1, .int .i64 (p).n2, .int .i64 (p).n3, .int .i64 (p).n4, .slice (p).la (p).labs.length (p).lk, .slice (p).sa (p).sels.length (p).sk, .slice (p).ta (p).trms.length (p).tk, .slice (p).ba (p).bers.length (p).bk, .slice (p).pa (p).prts.length (p).pk, .slice (p).aa (p).aprs.length (p).ak, .bool (p).wd, .slice (p).da (p).spds.length (p).dk, .int .i64 (p).sw, .int .i64 (p).rk, .string (p).ow, .bool (p).dm, .bool (p).pn, .bool (p).lc]] V fun e w' => e = .returned (.agg #[.int .i64 (tc (whyL (ms.map mDn) bs p) 0 : Nat), .int .i64 (n : Nat), .int .i64 (tc (whyL (ms.map mDn) bs p) 2 : Nat), .int .i64 (tc (whyL (ms.map mDn) bs p) 3 : Nat), .int .i64 (tc (whyL (ms.map mDn) bs p) 4 : Nat), .int .i64 (tc (whyL (ms.map mDn) bs p) 5 : Nat), .int .i64 (tc (whyL (ms.map mDn) bs p) 6 : Nat), .int .i64 (tc (whyL (ms.map mDn) bs p) 7 : Nat), .int .i64 (tc (whyL (ms.map mDn) bs p) 8 : Nat)]) ∧ Below V.heap.size V w' from fun V ad kd hV hD => by
      have hYd : YA V ad (ms.map mDn) c bs := ⟨hD, fun m hm => (by obtain ⟨y, hy, rfl⟩ := List.mem_map.1 hm; exact mDn_in (hV.ya.mi y hy)), hV.ya.bl, hV.ya.bi, (by rw [List.length_map]; exact hV.ya.mm), hV.ya.bb, fun m hm => (by obtain ⟨y, hy, rfl⟩ := List.mem_map.1 hm; exact hV.ya.lm y hy), hV.ya.lb, hV.ya.lo⟩
      have h9 := tally_any ad c kd kc (ms.map mDn) bs p V hYd hV.pa hlp
      unfold tcl at h9
      rw [down_tally, List.length_map, hn, hN] at h9
      exact h9)
    have HWd := Lib.hid (show ∀ V ad kd, SF w a ms c bs p V → MacL V ad (ms.map mDn) → Calls Try.prog 37 #[.slice ad n kd, .slice c N kc, .agg #[.string (p).nm, .int .i64 (p).n0, .int .i64 (p).n1, .int .i64 (p).n2, .int .i64 (p).n3, .int .i64 (p).n4, .slice (p).la (p).labs.length (p).lk, .slice (p).sa (p).sels.length (p).sk, .slice (p).ta (p).trms.length (p).tk, .slice (p).ba (p).bers.length (p).bk, .slice (p).pa (p).prts.length (p).pk, .slice (p).aa (p).aprs.length (p).ak, .bool (p).wd, .slice (p).da (p).spds.length (p).dk, .int .i64 (p).sw, .int .i64 (p).rk, .string (p).ow, .bool (p).dm, .bool (p).pn, .bool (p).lc]] V fun e w' => (∃ x k, e = .returned (.slice x 0 k)) ∧ Below V.heap.size V w' from fun V ad kd hV hD => by
      have hYd : YA V ad (ms.map mDn) c bs := ⟨hD, fun m hm => (by obtain ⟨y, hy, rfl⟩ := List.mem_map.1 hm; exact mDn_in (hV.ya.mi y hy)), hV.ya.bl, hV.ya.bi, (by rw [List.length_map]; exact hV.ya.mm), hV.ya.bb, fun m hm => (by obtain ⟨y, hy, rfl⟩ := List.mem_map.1 hm; exact hV.ya.lm y hy), hV.ya.lb, hV.ya.lo⟩
      have h9 := where_any ad c kd kc (ms.map mDn) bs p V hYd hV.pa hlp
      rw [down_where, List.length_map, hn, hN] at h9
      refine h9.mono fun e w' h => ?_
      obtain ⟨⟨v, rfl, hv⟩, hb⟩ := h
      obtain ⟨x, k, rfl⟩ := own_sl hv
      exact ⟨⟨x, k, rfl⟩, hb⟩)
    have HWn := Lib.hid (show ∀ V, SF w a ms c bs p V → Calls Try.prog 37 #[.slice none 0 0, .slice none 0 0, .agg #[.string (p).nm, .int .i64 (p).n0, .int .i64 (p).n1, .int .i64 (p).n2, .int .i64 (p).n3, .int .i64 (p).n4, .slice (p).la (p).labs.length (p).lk, .slice (p).sa (p).sels.length (p).sk, .slice (p).ta (p).trms.length (p).tk, .slice (p).ba (p).bers.length (p).bk, .slice (p).pa (p).prts.length (p).pk, .slice (p).aa (p).aprs.length (p).ak, .bool (p).wd, .slice (p).da (p).spds.length (p).dk, .int .i64 (p).sw, .int .i64 (p).rk, .string (p).ow, .bool (p).dm, .bool (p).pn, .bool (p).lc]] V fun e w' => (∃ x k, e = .returned (.slice x 0 k)) ∧ Below V.heap.size V w' from fun V hV => by
      have h9 := where_any none none 0 0 [] [] p V ⟨RowsAt.nil, (fun m hm => by cases hm), RowsAt.nil, (fun b hb => by cases hb), Nat.zero_le _, Nat.zero_le _, (fun m hm => by cases hm), (fun b hb => by cases hb), (fun b hb => by cases hb)⟩ hV.pa hlp
      refine h9.mono fun e w' h => ?_
      obtain ⟨⟨v, rfl, hv⟩, hb⟩ := h
      obtain ⟨x, k, rfl⟩ := own_sl hv
      exact ⟨⟨x, k, rfl⟩, hb⟩)
    obtain ⟨i0, hi, hz0, hz1, hz2⟩ := info_parts Try.info35
    have Hi := Lib.hid hi
    have Hz0 := Lib.hid hz0
    have Hz1 := Lib.hid hz1
    have Hz2 := Lib.hid hz2
    clear hi hz0 hz1 hz2
    clear hg hX hbw hF hG hA hB hP hl hl2 hN hn hly hlp hck hrp
    go_enter Try.func11, Try.ntmps11
    go_upto_region 1 with (fail)
    rw [← hW]
    clear hW
    go_upto_region 5 with (first
      | ((with_reducible refine at_load (ty := 47) ?_); refine load_cells rfl 47 (.tmp 5) rfl w.heap.size 0 rfl [.string (p).nm, .int .i64 (p).n0, .int .i64 (p).n1, .int .i64 (p).n2, .int .i64 (p).n3, .int .i64 (p).n4, .slice (p).la (p).labs.length (p).lk, .slice (p).sa (p).sels.length (p).sk, .slice (p).ta (p).trms.length (p).tk, .slice (p).ba (p).bers.length (p).bk, .slice (p).pa (p).prts.length (p).pk, .slice (p).aa (p).aprs.length (p).ak, .bool (p).wd, .slice (p).da (p).spds.length (p).dk, .int .i64 (p).sw, .int .i64 (p).rk, .string (p).ow, .bool (p).dm, .bool (p).pn, .bool (p).lc] _ Try.underlying47 rfl (by kernel_rfl) (by first | exact H1.out.rng | exact H0.out.rng) ?_)
      | (go_at_call 34; (with_reducible refine (HRt.out _ HB.out).mono ?_); rintro e w1 ⟨rfl, hb⟩; have H1 := Lib.hid (H0.out.mono hb); clear hb)
      | ((with_reducible refine at_store (ty := 47) ?_); refine store_new rfl 47 (.tmp 8) (.tmp 18) rfl _ _ rfl rfl (by kernel_rfl) rfl (List.all_eq_true.2 (prow_one p)) rfl ?_))
    obtain ⟨Y, hY⟩ : ∃ Y, w1.heap.size = Y := ⟨_, rfl⟩
    rw [hY]
    obtain ⟨V1, hV1⟩ : ∃ V, V = w1.alloc (.cells #[.string (p).nm, .int .i64 (p).n0, .int .i64 (p).n1, .int .i64 (p).n2, .int .i64 (p).n3, .int .i64 (p).n4, .slice (p).la (p).labs.length (p).lk, .slice (p).sa (p).sels.length (p).sk, .slice (p).ta (p).trms.length (p).tk, .slice (p).ba (p).bers.length (p).bk, .slice (p).pa (p).prts.length (p).pk, .slice (p).aa (p).aprs.length (p).ak, .bool (p).wd, .slice (p).da (p).spds.length (p).dk, .int .i64 (p).sw, .int .i64 (p).rk, .string (p).ow, .bool (p).dm, .bool (p).pn, .bool (p).lc] 47) := ⟨_, rfl⟩
    have HY1 := Lib.hid (show Blk V1 Y 47 (prow p) by rw [hV1, ← hY]; exact Blk.new w1 47 (prow p))
    have HbY := Lib.hid (show Below w1.heap.size w1 V1 by rw [hV1]; exact (Below.refl _ _).alloc (Nat.le_refl _) _)
    have y2 : V1.cell? ⟨Y, 2, none⟩ = some (.int .i64 p.n1) := HY1.out.cell 2
    have g2 := HY1.out.frozen 2
    have hly := HY1.out.lt
    rw [← hV1]
    clear hV1
    go_upto_region 6 with (fail)
    obtain ⟨V2, hV2⟩ : ∃ V, V = V1.setCell ⟨Y, 2, none⟩ (.int .i64 1125899906842624) := ⟨_, rfl⟩
    have HY2 := Lib.hid (show Blk V2 Y 47 [.string (p).nm, .int .i64 (p).n0, .int .i64 1125899906842624, .int .i64 (p).n2, .int .i64 (p).n3, .int .i64 (p).n4, .slice (p).la (p).labs.length (p).lk, .slice (p).sa (p).sels.length (p).sk, .slice (p).ta (p).trms.length (p).tk, .slice (p).ba (p).bers.length (p).bk, .slice (p).pa (p).prts.length (p).pk, .slice (p).aa (p).aprs.length (p).ak, .bool (p).wd, .slice (p).da (p).spds.length (p).dk, .int .i64 (p).sw, .int .i64 (p).rk, .string (p).ow, .bool (p).dm, .bool (p).pn, .bool (p).lc] by rw [hV2]; exact HY1.out.set 2 _)
    have H2 := Lib.hid (show SF w a ms c bs p V2 by rw [hV2]; exact H1.out.mono (HbY.out.setCell (by rw [hY]; exact Nat.le_refl _) _))
    rw [← hV2]
    clear hV2 y2 g2 hly HY1 HbY H0 H1 HB HX HRp HRt hY
    go_wp2
    go_loopw [7, 9] (fun vo vi wr => ∃ (k : Nat) (Q : List Mac), k ≤ n ∧ vi = .int .i64 k ∧ Q = (ms.take k).map mDn ∧ Q.length = k ∧ wr.ownsRow V2.heap.size 35 10 vo Q.length (Q.flatMap mrow) ∧ Below V2.heap.size V2 wr) (fun _ vi _ => n - (intOf vi).toNat)
    case atStart => exact ⟨0, [], Nat.zero_le _, rfl, rfl, rfl, World.ownsRow_nil _ _ _ _, Below.refl _ _⟩
    case round =>
      obtain ⟨k, Q, hk, rfl, hE, hLk, hO, hB⟩ := hrel
      have HE := Lib.hid hE
      have HB := Lib.hid hB
      have HO := Lib.hid hO
      have HLk := Lib.hid hLk
      have hbz := hB.size
      obtain ⟨ao, ko, rfl⟩ := own_sl hO
      by_cases hlt : k < n
      · obtain ⟨m, hm⟩ := mem_at (l := ms) (k := k) (by rw [Hn.out]; exact hlt)
        obtain ⟨b, o, rfl, hb, hc⟩ := H2.out.ya.ml (by rw [Hn.out]; omega)
        have HRg := Lib.hid (show wr.rangeAt b (o + k * 10) [.string (m).nm, .string (m).gp, .int .i64 (m).r0, .int .i64 (m).r1, .int .i64 (m).r2, .int .i64 (m).r3, .int .i64 (m).r4, .slice (m).la (m).labs.length (m).lk, .slice (m).ta (m).tnts.length (m).tk, .bool (m).rd] from fun j v hj => by rw [hB.cell (p := ⟨b, o + k * 10 + j, none⟩) hb, hc k m hm j (by have := (List.getElem?_eq_some_iff.1 hj).1; exact this)]; exact hj)
        have HC0 := Lib.hid (show V2.cell? ⟨b, o + k * 10, none⟩ = some (.string m.nm) from hc k m hm 0 (by decide))
        have HC3 := Lib.hid (show V2.cell? ⟨b, o + k * 10 + 3, none⟩ = some (.int .i64 m.r1) from hc k m hm 3 (by decide))
        have HNx := Lib.hid (show (ms.take (k + 1)).map mDn = Q ++ [mDn m] by rw [List.take_add_one, hm, List.map_append, hE]; rfl)
        have HNm := Lib.hid (HNo.out k m hm)
        obtain ⟨Z, hZ⟩ : ∃ Z, wr.heap.size = Z := ⟨_, rfl⟩
        clear hE hO hB hc hm hLk
        go_upto_region 10 with (first
          | ((with_reducible refine at_load (ty := 35) ?_); refine load_cells rfl 35 (.tmp 29) rfl b (o + k * 10) rfl [.string (m).nm, .string (m).gp, .int .i64 (m).r0, .int .i64 (m).r1, .int .i64 (m).r2, .int .i64 (m).r3, .int .i64 (m).r4, .slice (m).la (m).labs.length (m).lk, .slice (m).ta (m).tnts.length (m).tk, .bool (m).rd] _ Try.underlying35 rfl (by kernel_rfl) HRg.out ?_)
          | ((with_reducible refine at_store (ty := 35) ?_); refine store_new rfl 35 (.tmp 10) (.tmp 30) rfl _ _ (by first | rfl | (show _ = Value.pointer (some ⟨wr.heap.size, 0, none⟩); rw [hZ]; rfl)) rfl (by kernel_rfl) rfl (by rfl) rfl ?_))
        (try rw [hZ])
        obtain ⟨W1, hW1⟩ : ∃ V, V = wr.alloc (.cells #[.string (m).nm, .string (m).gp, .int .i64 (m).r0, .int .i64 (m).r1, .int .i64 (m).r2, .int .i64 (m).r3, .int .i64 (m).r4, .slice (m).la (m).labs.length (m).lk, .slice (m).ta (m).tnts.length (m).tk, .bool (m).rd] 35) := ⟨_, rfl⟩
        have HZ1 := Lib.hid (show Blk W1 Z 35 [.string (m).nm, .string (m).gp, .int .i64 (m).r0, .int .i64 (m).r1, .int .i64 (m).r2, .int .i64 (m).r3, .int .i64 (m).r4, .slice (m).la (m).labs.length (m).lk, .slice (m).ta (m).tnts.length (m).tk, .bool (m).rd] by rw [hW1, ← hZ]; exact Blk.new wr 35 _)
        have HbZ := Lib.hid (show Below wr.heap.size wr W1 by rw [hW1]; exact (Below.refl _ _).alloc (Nat.le_refl _) _)
        have z9 : W1.cell? ⟨Z, 9, none⟩ = some (.bool m.rd) := HZ1.out.cell 9
        have g9 := HZ1.out.frozen 9
        have hlz := HZ1.out.lt
        rw [← hW1]
        clear hW1
        go_upto_region 11 with (fail)
        obtain ⟨W2, hW2⟩ : ∃ V, V = W1.setCell ⟨Z, 9, none⟩ (.bool false) := ⟨_, rfl⟩
        have HZ2 := Lib.hid (show Blk W2 Z 35 [.string (m).nm, .string (m).gp, .int .i64 (m).r0, .int .i64 (m).r1, .int .i64 (m).r2, .int .i64 (m).r3, .int .i64 (m).r4, .slice (m).la (m).labs.length (m).lk, .slice (m).ta (m).tnts.length (m).tk, .bool false] by rw [hW2]; exact HZ1.out.set 9 _)
        have HbZ2 := Lib.hid (show Below wr.heap.size wr W2 by rw [hW2]; exact HbZ.out.setCell (by rw [hZ]; exact Nat.le_refl _) _)
        rw [← hW2]
        have HB2 := Lib.hid (HB.out.trans (HbZ2.out.mono hbz))
        have HO2 := Lib.hid (own_kept HO.out HbZ2.out)
        have hbz2 := HB2.out.size
        clear hW2 z9 g9 hlz HZ1 HbZ HO HRg
        go_upto_region 12 with (first
          | ((with_reducible refine at_load (ty := 35) ?_); refine load_cells rfl 35 (.tmp 10) rfl Z 0 rfl [.string (m).nm, .string (m).gp, .int .i64 (m).r0, .int .i64 (m).r1, .int .i64 (m).r2, .int .i64 (m).r3, .int .i64 (m).r4, .slice (m).la (m).labs.length (m).lk, .slice (m).ta (m).tnts.length (m).tk, .bool false] _ Try.underlying35 rfl (by kernel_rfl) HZ2.out.rng ?_)
          | (at_builtin; refine wpList_append_src rfl (.tmp 32) (.tmp 34) 22 rfl V2.heap.size 35 i0 _ 10 128 Try.underlying22 Hi.out Hz0.out Hz1.out Hz2.out rfl (by decide) _ Q.length (Q.flatMap mrow) rfl (HO2.out.alloc _) (some ⟨W2.heap.size, 0, none⟩) 1 1 [.string (m).nm, .string (m).gp, .int .i64 (m).r0, .int .i64 (m).r1, .int .i64 (m).r2, .int .i64 (m).r3, .int .i64 (m).r4, .slice (m).la (m).labs.length (m).lk, .slice (m).ta (m).tnts.length (m).tk, .bool false] rfl rfl (fun q e => by injection e with e; rw [← e]; exact news_at _ _ _) (fun e => by cases e) (mrow_ones (mDn m)) (by unfold maxLen; have := HLk.out; omega) (by have := HLk.out; omega) (by simp; omega) ?_; intro v6 w6 hown6 hgrow6; obtain ⟨a6, k6, rfl⟩ := own_sl hown6; have HB6 := Lib.hid (own_below (HO2.out.alloc _) (HB2.out.alloc hbz2 _) (by simp; omega) hgrow6); have HO6 := Lib.hid hown6; clear hown6 hgrow6))
        have e0 : w6.cell? ⟨b, o + k * 10, none⟩ = some (.string m.nm) := (HB6.out.cell (p := ⟨b, o + k * 10, none⟩) hb).trans HC0.out
        have e3 : w6.cell? ⟨b, o + k * 10 + 3, none⟩ = some (.int .i64 m.r1) := (HB6.out.cell (p := ⟨b, o + k * 10 + 3, none⟩) hb).trans HC3.out
        have hb6 := Nat.lt_of_lt_of_le hb HB6.out.size
        have HO6 := Lib.hid (show w6.ownsRow V2.heap.size 35 10 (.slice a6 (Q.length + 1) k6) (Q ++ [mDn m]).length ((Q ++ [mDn m]).flatMap mrow) by
          have h9 := HO6.out
          rw [List.length_append, List.flatMap_append]
          simpa [mrow, mDn] using h9)
        have hY6 := HY2.out.below HB6.out
        have HRy := Lib.hid hY6.rng
        have hly := hY6.lt
        have HGr := Lib.hid (fun V (hV : Below w6.heap.size w6 V) => HGr0.out V (H2.out.mono (HB6.out.trans (hV.mono HB6.out.size))) m.nm)
        obtain ⟨r, hr⟩ : ∃ r, whyF ms bs (pG p) m.nm = r := ⟨_, rfl⟩
        rw [hr] at HGr HNm
        clear hr hY6 HC0 HC3
        by_cases hm1 : m.r1 < 1125899906842624
        · have hr0 := HNm.out hm1
          have q0 : (r == 0) = false := by simpa using hr0
          have q1 : decide (m.r1 < 1125899906842624) = true := decide_eq_true hm1
          clear hr0
          have hcH := held_cell
          refine region_rel (by kernel_rfl) (by kernel_rfl) ?_
          repeat
            ((with_reducible refine relStep (fun K hK => ?_))
             (have HK := Lib.hid hK)
             clear hK
             (apply relInl
              · intro r n hf
                have Hf := Lib.hid hf
                clear hf
                (first
                  | (((with_reducible refine at_rel (ty := 47) ?_); refine rel_load rfl Y 0 rfl [.string (p).nm, .int .i64 (p).n0, .int .i64 1125899906842624, .int .i64 (p).n2, .int .i64 (p).n3, .int .i64 (p).n4, .slice (p).la (p).labs.length (p).lk, .slice (p).sa (p).sels.length (p).sk, .slice (p).ta (p).trms.length (p).tk, .slice (p).ba (p).bers.length (p).bk, .slice (p).pa (p).prts.length (p).pk, .slice (p).aa (p).aprs.length (p).ak, .bool (p).wd, .slice (p).da (p).spds.length (p).dk, .int .i64 (p).sw, .int .i64 (p).rk, .string (p).ow, .bool (p).dm, .bool (p).pn, .bool (p).lc] _ Try.underlying47 rfl (by kernel_rfl) (rangeAt_mono HRy.out hly n.below) rfl))
                  | (unfold relAt
                     go_simp
                     (first | (refine relUpon_val ?_ (Below.refl _ _); exact rfl) | exact rfl | (refine relUpon_enter ?_; (go_at_call 38; (with_reducible refine (HGr.out _ n.below).mono ?_); rintro e w9 ⟨rfl, hb⟩; exact ⟨⟨_, rfl, rfl⟩, hb⟩)))))
              (simp only [Act.put, List.setIfInBounds_toArray, List.set_cons_zero, List.set_cons_succ])
              (with_reducible refine HK.out _ _ ?_)
              clear HK K))
          refine relNil ?_
          intro r9 n9 hx9
          clear hcH
          (try simp only [List.nil_append, List.cons_append, List.mem_cons, List.not_mem_nil, or_false, forall_eq_or_imp, forall_eq, false_implies, implies_true] at hx9)
          obtain ⟨w9, hb9⟩ := n9
          (try dsimp only)
          obtain ⟨hc9, hf9⟩ := bcell hb9
          have hz9 := hb9.size
          (try simp at hz9)
          have HB9 := Lib.hid (HB6.out.trans (hb9.mono HB6.out.size))
          have HO9 := Lib.hid (own_kept HO6.out hb9)
          clear hb9 hc9 hf9 hz9
          go_wp2
          go_roundw
          case rel => exact ⟨k + 1, Q ++ [mDn m], by omega, by go_num, HNx.out.symm, by rw [List.length_append, HLk.out]; rfl, HO9.out, HB9.out⟩
          case measure => simp [intOf]; omega
        · have q1 : decide (m.r1 < 1125899906842624) = false := decide_eq_false hm1
          have hcH := held_cell
          refine region_rel (by kernel_rfl) (by kernel_rfl) ?_
          repeat
            ((with_reducible refine relStep (fun K hK => ?_))
             (have HK := Lib.hid hK)
             clear hK
             (apply relInl
              · intro r n hf
                have Hf := Lib.hid hf
                clear hf
                (first
                  | (((with_reducible refine at_rel (ty := 47) ?_); refine rel_load rfl Y 0 rfl [.string (p).nm, .int .i64 (p).n0, .int .i64 1125899906842624, .int .i64 (p).n2, .int .i64 (p).n3, .int .i64 (p).n4, .slice (p).la (p).labs.length (p).lk, .slice (p).sa (p).sels.length (p).sk, .slice (p).ta (p).trms.length (p).tk, .slice (p).ba (p).bers.length (p).bk, .slice (p).pa (p).prts.length (p).pk, .slice (p).aa (p).aprs.length (p).ak, .bool (p).wd, .slice (p).da (p).spds.length (p).dk, .int .i64 (p).sw, .int .i64 (p).rk, .string (p).ow, .bool (p).dm, .bool (p).pn, .bool (p).lc] _ Try.underlying47 rfl (by kernel_rfl) (rangeAt_mono HRy.out hly n.below) rfl))
                  | (unfold relAt
                     go_simp
                     (first | (refine relUpon_val ?_ (Below.refl _ _); exact rfl) | exact rfl | (refine relUpon_enter ?_; (go_at_call 38; (with_reducible refine (HGr.out _ n.below).mono ?_); rintro e w9 ⟨rfl, hb⟩; exact ⟨⟨_, rfl, rfl⟩, hb⟩)))))
              (simp only [Act.put, List.setIfInBounds_toArray, List.set_cons_zero, List.set_cons_succ])
              (with_reducible refine HK.out _ _ ?_)
              clear HK K))
          refine relNil ?_
          intro r9 n9 hx9
          clear hcH
          (try simp only [List.nil_append, List.cons_append, List.mem_cons, List.not_mem_nil, or_false, forall_eq_or_imp, forall_eq, false_implies, implies_true] at hx9)
          obtain ⟨w9, hb9⟩ := n9
          (try dsimp only)
          obtain ⟨hc9, hf9⟩ := bcell hb9
          have hz9 := hb9.size
          (try simp at hz9)
          have HB9 := Lib.hid (HB6.out.trans (hb9.mono HB6.out.size))
          have HO9 := Lib.hid (own_kept HO6.out hb9)
          clear hb9 hc9 hf9 hz9
          go_wp2
          go_roundw
          case rel => exact ⟨k + 1, Q ++ [mDn m], by omega, by go_num, HNx.out.symm, by rw [List.length_append, HLk.out]; rfl, HO9.out, HB9.out⟩
          case measure => simp [intOf]; omega
      · obtain rfl : k = n := by omega
        have hQe : Q = ms.map mDn := by rw [hE, List.take_of_length_le (by rw [Hn.out]; exact Nat.le_refl _)]
        have hRows := (own_parts (l := Q) (a := ao) (k := ko) mrow_len (by decide) hO).1
        rw [hQe] at hRows
        have HRw := Lib.hid hRows
        have H3 := Lib.hid (H2.out.mono hB)
        rw [hLk]
        clear hE hO hB hQe hRows HO HE HB HNo HGr0
        go_upto_region 15 with (first
          | ((with_reducible refine at_load (ty := 47) ?_); refine load_cells rfl 47 (.tmp 5) rfl w.heap.size 0 rfl [.string (p).nm, .int .i64 (p).n0, .int .i64 (p).n1, .int .i64 (p).n2, .int .i64 (p).n3, .int .i64 (p).n4, .slice (p).la (p).labs.length (p).lk, .slice (p).sa (p).sels.length (p).sk, .slice (p).ta (p).trms.length (p).tk, .slice (p).ba (p).bers.length (p).bk, .slice (p).pa (p).prts.length (p).pk, .slice (p).aa (p).aprs.length (p).ak, .bool (p).wd, .slice (p).da (p).spds.length (p).dk, .int .i64 (p).sw, .int .i64 (p).rk, .string (p).ow, .bool (p).dm, .bool (p).pn, .bool (p).lc] _ Try.underlying47 rfl (by kernel_rfl) H3.out.rng ?_)
          | (go_at_call 36; (with_reducible refine (HTa.out _ _ _ H3.out HRw.out).mono ?_); rintro e w4 ⟨rfl, hb⟩; have H4 := Lib.hid (H3.out.mono hb); have HR4 := Lib.hid (HRw.out.mono hb); clear hb)
          | ((with_reducible refine at_store (ty := 63) ?_); refine store_new rfl 63 (.tmp 11) (.tmp 58) rfl _ _ rfl rfl (by kernel_rfl) rfl (by rfl) rfl ?_))
        obtain ⟨T, hT⟩ : ∃ T, w4.heap.size = T := ⟨_, rfl⟩
        rw [hT]
        obtain ⟨V4, hV4⟩ : ∃ V, V = w4.alloc (.cells #[.int .i64 (tc (whyL (ms.map mDn) bs p) 0 : Nat), .int .i64 (k : Nat), .int .i64 (tc (whyL (ms.map mDn) bs p) 2 : Nat), .int .i64 (tc (whyL (ms.map mDn) bs p) 3 : Nat), .int .i64 (tc (whyL (ms.map mDn) bs p) 4 : Nat), .int .i64 (tc (whyL (ms.map mDn) bs p) 5 : Nat), .int .i64 (tc (whyL (ms.map mDn) bs p) 6 : Nat), .int .i64 (tc (whyL (ms.map mDn) bs p) 7 : Nat), .int .i64 (tc (whyL (ms.map mDn) bs p) 8 : Nat)] 63) := ⟨_, rfl⟩
        have hb4 : Below w4.heap.size w4 V4 := by rw [hV4]; exact (Below.refl _ _).alloc (Nat.le_refl _) _
        have H5 := Lib.hid (H4.out.mono hb4)
        have HR5 := Lib.hid (HR4.out.mono hb4)
        have HTb := Lib.hid (show Blk V4 T 63 [.int .i64 (tc (whyL (ms.map mDn) bs p) 0 : Nat), .int .i64 (k : Nat), .int .i64 (tc (whyL (ms.map mDn) bs p) 2 : Nat), .int .i64 (tc (whyL (ms.map mDn) bs p) 3 : Nat), .int .i64 (tc (whyL (ms.map mDn) bs p) 4 : Nat), .int .i64 (tc (whyL (ms.map mDn) bs p) 5 : Nat), .int .i64 (tc (whyL (ms.map mDn) bs p) 6 : Nat), .int .i64 (tc (whyL (ms.map mDn) bs p) 7 : Nat), .int .i64 (tc (whyL (ms.map mDn) bs p) 8 : Nat)] by rw [hV4, ← hT]; exact Blk.new w4 63 _)
        rw [← hV4]
        clear hV4 hT hb4 H4 HR4 H3 HRw
        go_wp2_with (first
          | ((with_reducible refine at_load (ty := 47) ?_); refine load_cells rfl 47 (.tmp 5) rfl w.heap.size 0 rfl [.string (p).nm, .int .i64 (p).n0, .int .i64 (p).n1, .int .i64 (p).n2, .int .i64 (p).n3, .int .i64 (p).n4, .slice (p).la (p).labs.length (p).lk, .slice (p).sa (p).sels.length (p).sk, .slice (p).ta (p).trms.length (p).tk, .slice (p).ba (p).bers.length (p).bk, .slice (p).pa (p).prts.length (p).pk, .slice (p).aa (p).aprs.length (p).ak, .bool (p).wd, .slice (p).da (p).spds.length (p).dk, .int .i64 (p).sw, .int .i64 (p).rk, .string (p).ow, .bool (p).dm, .bool (p).pn, .bool (p).lc] _ Try.underlying47 rfl (by kernel_rfl) (by first | exact H6.out.rng | exact H5.out.rng) ?_)
          | (go_at_call 37; (with_reducible refine (HWd.out _ _ _ H5.out HR5.out).mono ?_); rintro e w6 ⟨⟨x6, k6, rfl⟩, hb⟩; have H6 := Lib.hid (H5.out.mono hb); have c1 : w6.cell? ⟨T, 1, none⟩ = some (.int .i64 k) := (HTb.out.below hb).cell 1; clear hb)
          | (go_at_call 37; (with_reducible refine (HWn.out _ H6.out).mono ?_); rintro e w7 ⟨⟨x7, k7, rfl⟩, hb⟩; have H7 := Lib.hid (H6.out.mono hb); clear hb)
          | (go_at_call 35; (with_reducible refine (fknown_any _).mono ?_); rintro e w8 ⟨rfl, hb⟩; have H8 := Lib.hid (H7.out.mono hb); clear hb))
        go_ret
        exact ⟨by first | rfl | trivial, H8.out.bl⟩
set_option maxRecDepth 100000 in
theorem walk {H : Type} {enc : TypeId × Value → H} {W : World} {base : Nat} {v u x : Value} {d e f : DataW H} {p q r : List MemPlace}
    (hv : Value.okWide Try.prog W .any base 22 v) (h : DataW.Trod enc Try.prog W 0 (fun _ => true) true 22 v d p)
    (hu : Value.okWide Try.prog W .any base 23 u) (h2 : DataW.Trod enc Try.prog W 0 (fun _ => true) true 23 u e q)
    (hx : Value.okWide Try.prog W .any base 47 x) (h3 : DataW.Trod enc Try.prog W 0 (fun _ => true) true 47 x f r) :
    Calls Try.prog 11 #[v, u, x] W fun e W' => e = .returned (.bool true) ∧ Below W.heap.size W W' := by
  obtain ⟨a, l, k, rfl, -, hF, hm, -, hI⟩ := open_macs hv h
  obtain ⟨c, l2, k2, rfl, -, hG, hm2, -, hI2⟩ := open_bnds hu h2
  obtain ⟨m, rfl, hP⟩ := open_pod hx h3
  exact walk1 a k l c k2 l2 m W hF hG hI hI2 hP.here hm hm2

set_option maxRecDepth 100000 in
theorem lifted (os : Os) (started : os.Started) (H : Type) (enc : TypeId × Value → H) :
    ReturnsInHanded {} Try.checked os 11 .any (Rows.fitReadySpec.pre6 enc Try.prog Try.f11 Rows.fitReadyRow.domain false) (Rows.fitReadySpec.post enc Try.prog Try.f11 false true false false) := by
  refine returnsInHanded_of_change (C := Try.checked) Try.own started (by kernel_rfl) Try.func11
    (ChangeSpec.witness6 (enc := enc) (C := Try.checked) false ⟨#[], #[.slice none 0 0, .slice none 0 0, .agg #[.string ⟨#[]⟩, .int .i64 0, .int .i64 0, .int .i64 0, .int .i64 0, .int .i64 0, .slice none 0 0, .slice none 0 0, .slice none 0 0, .slice none 0 0, .slice none 0 0, .slice none 0 0, .bool false, .slice none 0 0, .int .i64 0, .int .i64 0, .string ⟨#[]⟩, .bool false, .bool false, .bool false]], []⟩ 8 (by kernel_rfl) (by kernel_rfl) (by kernel_rfl) (by kernel_rfl)) ?_
  intro W base args ds gs before hval hW _ _
  have hW' := hW
  obtain ⟨p, q, hA, hV, rfl, hfz, hnd⟩ := hW
  rw [Try.params11] at hA hval
  obtain ⟨v0, v1, v2, d0, d1, d2, p0, p1, p2, rfl, rfl, rfl, h0, h1, h2⟩ := trodAll_three hA
  refine (walk (hval 0 22 v0 rfl rfl) h0 (hval 1 23 v1 rfl rfl) h1 (hval 2 47 v2 rfl rfl) h2).mono fun e W' ⟨he, hb⟩ => ?_
  exact ⟨_, he, law_post Try.laidOut hW' rfl (by kernel_rfl) (by kernel_rfl) Try.underlying4 rfl rfl rfl hb⟩

theorem over : Rows.fitReadyRow.holds Try.pinned (OpenSpec.ofChange Rows.fitReadySpec) :=
  OpenClaim.holds_of_wide 11 Try.f11 rfl rfl rfl rfl rfl rfl rfl ⟨rfl, rfl, rfl, rfl, rfl⟩ rfl rfl rfl rfl rfl (by kernel_rfl) Try.func11 (by kernel_rfl)
    (of_decide_eq_true (by kernel_rfl)) (by unfold Func.isWrapper; first | (rw [if_pos (by decide +kernel)]; kernel_rfl) | (rw [if_neg (by decide +kernel)]; exact ⟨rfl, rfl⟩))
    (fun os started H enc _ => lifted os started H enc)

/-- The statement. -/
theorem proved : Rows.FitReadySaid := over
end fitReady
end Go.Proofs.Ythbpnfpalcgfeaa
