/-
  Kin: KinBack, walked.
-/
import Derived.Test.YtccplljbljpjpaaDoorKi8
import Derived.Test.YtccplljbljpjpaaDoorKiS
namespace Go.Proofs.YtccplljbljpjpaaDoor
open Go.ChangeShapes Go.WideShapes Go.ChangeAt Go.RowKit
set_option linter.unusedVariables false
set_option linter.unusedSimpArgs false

theorem Tryd.info37 : (Tryd.prog.info? 37).map (fun i => (i.zero, i.size, i.bytes)) = some (some (.agg #[.string ⟨#[]⟩, .int .i64 0, .int .i64 0, .int .i64 0, .int .i64 0, .int .i64 0, .slice none 0 0, .slice none 0 0, .slice none 0 0, .slice none 0 0, .slice none 0 0, .slice none 0 0, .bool false, .slice none 0 0, .int .i64 0, .int .i64 0, .string ⟨#[]⟩, .bool false, .bool false, .bool false]), 20, 272) := by kernel_rfl
theorem rev_at {l : List Pd} {i m n : Nat} {p : Pd} (hn : l.length = n) (hi : i + 1 + m = n) (hp : l[i]? = some p) : l.reverse.take (m + 1) = l.reverse.take m ++ [p] := by
  refine take_at ?_
  rw [List.getElem?_reverse (by omega), ← hp]
  congr 1
  omega
set_option maxRecDepth 100000 in
set_option maxHeartbeats 16000000 in
theorem kback_any (a : Option Addr) (ka : Nat) (l : List Pd) (w : World) (hF : PodLs w a l) (hl : l.length ≤ maxLen) (hI : ∀ x ∈ l, PodAt w x) (hWT : WT w) (hT : Tab10 w) :
    Calls Tryd.prog 4 #[.slice a l.length ka] w fun e w' => e = .returned (.bool true) ∧ Below w.heap.size w w' := by
  have HKn := Lib.hid (fun V (hV : Below w.heap.size w V) => kknown_any V (hWT.mono hV hWT.sz) (hT.mono hV))
  have HLi := Lib.hid (klight_any a ka l w hF hl hI)
  obtain ⟨m, hm⟩ : ∃ m, lightK l = m := ⟨_, rfl⟩
  rw [hm] at HLi
  cases m with
  | false =>
    clear hF hI hWT hT hm hl
    generalize l.length = n at HLi ⊢
    go_enter Tryd.func4, Tryd.ntmps4
    go_wp2_with (first
      | (go_at_call 5; (with_reducible refine HLi.out.mono ?_); rintro e w1 ⟨rfl, hb⟩; have HB1 := Lib.hid hb; clear hb)
      | (go_at_call 6; (with_reducible refine (HKn.out _ HB1.out).mono ?_); rintro e w2 ⟨rfl, hb⟩; have HB2 := Lib.hid (HB1.out.trans (hb.mono HB1.out.size)); clear hb))
    go_ret
    exact ⟨rfl, HB2.out⟩
  | true =>
    unfold lightK at hm
    simp only [Bool.and_eq_true, decide_eq_true_eq, List.all_eq_true] at hm
    have hl60 := hm.1
    have hL := hm.2
    have HG1 := Lib.hid (fun V (hV : Below w.heap.size w V) => groups_any a ka l V (hF.mono hV) (by omega) (fun x hx => (hI x hx).mono hV) hL (hWT.mono hV hWT.sz) (hT.mono hV))
    have HG2 := Lib.hid (fun c kc V (hV : Below w.heap.size w V) (h : PodLs V c l.reverse) => groups_any c kc l.reverse V h (by rw [List.length_reverse]; omega) (fun x hx => (hI x (List.mem_reverse.1 hx)).mono hV) (fun x hx => hL x (List.mem_reverse.1 hx)) (hWT.mono hV hWT.sz) (hT.mono hV))
    have HT1 := Lib.hid (fun V (hV : Below w.heap.size w V) => stotal_any a ka l V (hF.mono hV) (by omega) (fun x hx => (hI x hx).mono hV) hL)
    have HT2 := Lib.hid (fun c kc V (hV : Below w.heap.size w V) (h : PodLs V c l.reverse) => stotal_any c kc l.reverse V h (by rw [List.length_reverse]; omega) (fun x hx => (hI x (List.mem_reverse.1 hx)).mono hV) (fun x hx => hL x (List.mem_reverse.1 hx)))
    obtain ⟨n, hn⟩ : ∃ n, l.length = n := ⟨_, rfl⟩
    obtain ⟨T, hTt⟩ : ∃ T, totK l = T := ⟨_, rfl⟩
    obtain ⟨⟨te, t0, t1, t2, t3, t4⟩, rfl⟩ : ∃ T', T' = T := ⟨_, rfl⟩
    have hgb := grpK_back l
    unfold GivesK at HG1 HG2
    rw [hgb.1, hgb.2, List.length_reverse] at HG2
    rw [totK_back, List.length_reverse] at HT2
    obtain ⟨m, hm2⟩ : ∃ m, (grpK l).1.length = m := ⟨_, rfl⟩
    obtain ⟨er, her⟩ : ∃ m, (grpK l).2 = m := ⟨_, rfl⟩
    have hm9 : m ≤ 60 := by rw [← hm2]; exact Nat.le_trans (grpK_le l).1 (by omega)
    rw [hTt, hn] at HT1 HT2
    rw [hm2, her, hn] at HG1 HG2
    rw [hn] at HLi hl60 ⊢
    have HN := Lib.hid hn
    have HF := Lib.hid hF
    obtain ⟨i0, hi, hz0, hz1, hz2⟩ := info_parts Tryd.info37
    have Hi := Lib.hid hi
    have Hz0 := Lib.hid hz0
    have Hz1 := Lib.hid hz1
    have Hz2 := Lib.hid hz2
    clear hF hI hL hWT hT hm hl hn hTt hgb hm2 her hi hz0 hz1 hz2
    go_enter Tryd.func4, Tryd.ntmps4
    go_wp2_with (go_at_call 5; (with_reducible refine HLi.out.mono ?_); rintro e w1 ⟨rfl, hb⟩; have HB1 := Lib.hid hb; clear hb)
    go_loopw [3, 4] (fun vo vi wr => ∃ i m : Nat, i + m = n ∧ vi = .int .i64 ((i : Int) - 1) ∧ wr.ownsRow w.heap.size 37 20 vo m ((l.reverse.take m).flatMap prow) ∧ Below w.heap.size w wr) (fun _ vi _ => (intOf vi + 1).toNat)
    case atStart => exact ⟨n, 0, by omega, rfl, World.ownsRow_nil _ _ _ _, HB1.out⟩
    case round =>
      obtain ⟨i, m2, hk, rfl, hO, hB⟩ := hrel
      obtain ⟨ao, ko, rfl⟩ := own_sl hO
      have hbz := hB.size
      have HB := Lib.hid hB
      have HO := Lib.hid hO
      clear hO
      cases i with
      | succ i =>
        rw [show (((i + 1 : Nat) : Int) - 1) = (i : Int) by omega]
        obtain ⟨p, hp⟩ := mem_at (l := l) (k := i) (by rw [HN.out]; omega)
        obtain ⟨b, o, rfl, hb, hc⟩ := (HF.out.mono hB) (by rw [HN.out]; omega)
        have HRq := Lib.hid (show wr.rangeAt b (o + i * 20) [.string (p).nm, .int .i64 (p).n0, .int .i64 (p).n1, .int .i64 (p).n2, .int .i64 (p).n3, .int .i64 (p).n4, .slice (p).la (p).labs.length (p).lk, .slice (p).sa (p).sels.length (p).sk, .slice (p).ta (p).trms.length (p).tk, .slice (p).ba (p).bers.length (p).bk, .slice (p).pa (p).prts.length (p).pk, .slice (p).aa (p).aprs.length (p).ak, .bool (p).wd, .slice (p).da (p).spds.length (p).dk, .int .i64 (p).sw, .int .i64 (p).rk, .string (p).ow, .bool (p).dm, .bool (p).pn, .bool (p).lc] from fun j v hj => by
          have hj20 : j < 20 := (List.getElem?_eq_some_iff.1 hj).1
          rw [hc i p hp j hj20]
          exact hj)
        have HNx := Lib.hid (rev_at HN.out hk hp)
        have hin : i < n := by omega
        have hm60 : m2 ≤ 60 := by omega
        have HK := Lib.hid hk
        have HP := Lib.hid (kprow_one p)
        clear hc hp hB hk
        obtain ⟨W, hWw⟩ : ∃ V, V = wr := ⟨_, rfl⟩
        subst hWw
        go_wp2_with (first
          | ((with_reducible refine at_load (ty := 37) ?_); refine load_cells rfl 37 (.tmp 27) rfl b (o + i * 20) rfl [.string (p).nm, .int .i64 (p).n0, .int .i64 (p).n1, .int .i64 (p).n2, .int .i64 (p).n3, .int .i64 (p).n4, .slice (p).la (p).labs.length (p).lk, .slice (p).sa (p).sels.length (p).sk, .slice (p).ta (p).trms.length (p).tk, .slice (p).ba (p).bers.length (p).bk, .slice (p).pa (p).prts.length (p).pk, .slice (p).aa (p).aprs.length (p).ak, .bool (p).wd, .slice (p).da (p).spds.length (p).dk, .int .i64 (p).sw, .int .i64 (p).rk, .string (p).ow, .bool (p).dm, .bool (p).pn, .bool (p).lc] _ Tryd.underlying37 rfl (by kernel_rfl) HRq.out ?_)
          | (at_builtin; refine wpList_append_src rfl (.tmp 24) (.tmp 29) 22 rfl w.heap.size 37 i0 _ 20 272 Tryd.underlying22 Hi.out Hz0.out Hz1.out Hz2.out rfl (by decide) _ m2 ((l.reverse.take m2).flatMap prow) rfl (HO.out.alloc _) (some ⟨W.heap.size, 0, none⟩) 1 1 [.string (p).nm, .int .i64 (p).n0, .int .i64 (p).n1, .int .i64 (p).n2, .int .i64 (p).n3, .int .i64 (p).n4, .slice (p).la (p).labs.length (p).lk, .slice (p).sa (p).sels.length (p).sk, .slice (p).ta (p).trms.length (p).tk, .slice (p).ba (p).bers.length (p).bk, .slice (p).pa (p).prts.length (p).pk, .slice (p).aa (p).aprs.length (p).ak, .bool (p).wd, .slice (p).da (p).spds.length (p).dk, .int .i64 (p).sw, .int .i64 (p).rk, .string (p).ow, .bool (p).dm, .bool (p).pn, .bool (p).lc] rfl rfl (fun q e => by injection e with e; rw [← e]; exact news_at _ _ _) (fun e => by cases e) HP.out (by unfold maxLen; omega) (by omega) (by simp; omega) ?_; intro v6 w6 hown6 hgrow6; obtain ⟨a6, k6, rfl⟩ := own_sl hown6; have HB6 := Lib.hid (own_below (HO.out.alloc _) (HB.out.alloc hbz _) (by simp; omega) hgrow6); have HO6 := Lib.hid hown6; clear hown6 hgrow6))
        go_roundw
        case rel => exact ⟨i, m2 + 1, by have := HK.out; omega, by go_num, by rw [HNx.out, List.flatMap_append, show ([p] : List Pd).flatMap prow = [.string (p).nm, .int .i64 (p).n0, .int .i64 (p).n1, .int .i64 (p).n2, .int .i64 (p).n3, .int .i64 (p).n4, .slice (p).la (p).labs.length (p).lk, .slice (p).sa (p).sels.length (p).sk, .slice (p).ta (p).trms.length (p).tk, .slice (p).ba (p).bers.length (p).bk, .slice (p).pa (p).prts.length (p).pk, .slice (p).aa (p).aprs.length (p).ak, .bool (p).wd, .slice (p).da (p).spds.length (p).dk, .int .i64 (p).sw, .int .i64 (p).rk, .string (p).ow, .bool (p).dm, .bool (p).pn, .bool (p).lc] from rfl]; exact HO6.out, HB6.out⟩
        case measure => simp [intOf] <;> omega
      | zero =>
        obtain rfl : m2 = n := by omega
        rw [show (((0 : Nat) : Int) - 1) = -1 by omega]
        have hO9 : wr.ownsRow w.heap.size 37 20 (.slice ao m2 ko) l.reverse.length (l.reverse.flatMap prow) := by
          have h9 := HO.out
          rw [List.take_of_length_le (by rw [List.length_reverse, HN.out]; exact Nat.le_refl _)] at h9
          rw [List.length_reverse, HN.out]
          exact h9
        obtain ⟨a5, k5, e5, _, hr5⟩ := IsL.of_own kprow_len (by decide) hO9
        rw [List.length_reverse, HN.out] at e5
        injection e5 with e5 e6 e7
        subst e5 e7
        have HR5 := Lib.hid (show PodLs wr ao l.reverse from hr5)
        clear hO9 hr5 HO hB e6
        obtain ⟨W, hWw⟩ : ∃ V, V = wr := ⟨_, rfl⟩
        subst hWw
        go_upto_region 10 with (first
          | (go_at_call 7; (with_reducible refine (HG1.out _ HB.out).mono ?_); rintro e w2 ⟨⟨a2, c2, rfl, -⟩, hb⟩; have HB2 := Lib.hid (HB.out.trans (hb.mono HB.out.size)); have HR2 := Lib.hid (HR5.out.mono hb); clear hb)
          | (go_at_call 7; (with_reducible refine (HG2.out _ _ _ HB2.out HR2.out).mono ?_); rintro e w3 ⟨⟨a3, c3, rfl, -⟩, hb⟩; have HB3 := Lib.hid (HB2.out.trans (hb.mono HB2.out.size)); have HR3 := Lib.hid (HR2.out.mono hb); clear hb))
        go_upto_region 11 with (first
          | (go_at_call 9; (with_reducible refine (HT1.out _ HB3.out).mono ?_); rintro e w5 ⟨rfl, hb⟩; (have HB5 := Lib.hid (HB3.out.trans (hb.mono HB3.out.size)); have HR5 := Lib.hid (HR3.out.mono hb)); clear hb)
          | ((with_reducible refine at_store (ty := 31) ?_); refine store_new rfl 31 (.tmp 9) (.tmp 44) rfl _ _ rfl rfl (by kernel_rfl) rfl (by rfl) rfl ?_))
        obtain ⟨x6, hx5⟩ : ∃ x, w5.heap.size = x := ⟨_, rfl⟩
        obtain ⟨w6, hw6⟩ : ∃ V, V = w5.alloc (.cells #[.int .i64 t0, .int .i64 t1, .int .i64 t2, .int .i64 t3, .int .i64 t4] 31) := ⟨_, rfl⟩
        have hal : Below w5.heap.size w5 w6 := by rw [hw6]; exact (Below.refl _ _).alloc (Nat.le_refl _) _
        have HY6 := Lib.hid (show Blk w6 x6 31 [.int .i64 t0, .int .i64 t1, .int .i64 t2, .int .i64 t3, .int .i64 t4] by rw [hw6, ← hx5]; exact Blk.new w5 31 _)
        have HB6 := Lib.hid (HB5.out.trans (hal.mono HB5.out.size))
        have HR6 := Lib.hid (HR5.out.mono hal)
        rw [hx5, ← hw6]
        clear hx5 hw6 hal HB5 HR5 HB3 HR3
        go_upto_region 12 with (first
          | (go_at_call 9; (with_reducible refine (HT2.out _ _ _ HB6.out HR6.out).mono ?_); rintro e w5 ⟨rfl, hb⟩; (have HB5 := Lib.hid (HB6.out.trans (hb.mono HB6.out.size)); have HX5 := Lib.hid (HY6.out.below hb)); clear hb)
          | ((with_reducible refine at_store (ty := 31) ?_); refine store_new rfl 31 (.tmp 11) (.tmp 49) rfl _ _ rfl rfl (by kernel_rfl) rfl (by rfl) rfl ?_))
        obtain ⟨x7, hx5⟩ : ∃ x, w5.heap.size = x := ⟨_, rfl⟩
        obtain ⟨w7, hw6⟩ : ∃ V, V = w5.alloc (.cells #[.int .i64 t0, .int .i64 t1, .int .i64 t2, .int .i64 t3, .int .i64 t4] 31) := ⟨_, rfl⟩
        have hal : Below w5.heap.size w5 w7 := by rw [hw6]; exact (Below.refl _ _).alloc (Nat.le_refl _) _
        have HY7 := Lib.hid (show Blk w7 x7 31 [.int .i64 t0, .int .i64 t1, .int .i64 t2, .int .i64 t3, .int .i64 t4] by rw [hw6, ← hx5]; exact Blk.new w5 31 _)
        have HB7 := Lib.hid (HB5.out.trans (hal.mono HB5.out.size))
        have HX7 := Lib.hid (HX5.out.below hal)
        rw [hx5, ← hw6]
        clear hx5 hw6 hal HB5 HX5
        go_wp2_with (first
          | ((with_reducible refine at_load (ty := 31) ?_); refine load_cells rfl 31 (.tmp 9) rfl x6 0 rfl [.int .i64 t0, .int .i64 t1, .int .i64 t2, .int .i64 t3, .int .i64 t4] _ Tryd.underlying31 rfl (by kernel_rfl) (blk_range HX7.out) ?_)
          | ((with_reducible refine at_load (ty := 31) ?_); refine load_cells rfl 31 (.tmp 11) rfl x7 0 rfl [.int .i64 t0, .int .i64 t1, .int .i64 t2, .int .i64 t3, .int .i64 t4] _ Tryd.underlying31 rfl (by kernel_rfl) (blk_range HY7.out) ?_)
          | (go_at_call 6; (with_reducible refine (HKn.out _ HB7.out).mono ?_); rintro e w9 ⟨rfl, hb⟩; have HB9 := Lib.hid (HB7.out.trans (hb.mono HB7.out.size)); clear hb))
        go_ret
        exact ⟨rfl, HB9.out⟩
end Go.Proofs.YtccplljbljpjpaaDoor
