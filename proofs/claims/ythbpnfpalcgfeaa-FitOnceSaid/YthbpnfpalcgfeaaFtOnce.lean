/-
  FitOnce: each machine has one reason; those without stand in Where.
-/
import Derived.Test.YthbpnfpalcgfeaaFtR
namespace Go.Proofs.Ythbpnfpalcgfeaa
open Go.ChangeShapes Go.WideShapes Go.ChangeAt Go.RowKit
set_option linter.unusedVariables false
set_option linter.unusedSimpArgs false
namespace fitOnce

def sumT (L : List Int) : Nat → Nat
  | 0 => 0
  | k + 1 => sumT L k + tc L (k : Int)
theorem sumT_nine (L : List Int) (h : ∀ x ∈ L, 0 ≤ x ∧ x ≤ 8) : sumT L 9 = L.length := by
  rw [← tc_sum L h]
  show 0 + tc L 0 + tc L 1 + tc L 2 + tc L 3 + tc L 4 + tc L 5 + tc L 6 + tc L 7 + tc L 8 = _
  omega
theorem sumT_le (L : List Int) : ∀ k, sumT L k ≤ k * L.length
  | 0 => Nat.zero_le _
  | k + 1 => by
    have h1 := sumT_le L k
    have h2 := tc_le L (k : Int)
    show sumT L k + tc L (k : Int) ≤ _
    rw [Nat.succ_mul]
    omega
set_option maxRecDepth 100000 in
set_option maxHeartbeats 8000000 in
theorem walk1 (a : Option Addr) (ka : Nat) (ms : List Mac) (c : Option Addr) (kc : Nat) (bs : List Bd) (p : Pd) (w : World) (hF : MacL w a ms) (hG : BndL w c bs) (hA : ∀ m ∈ ms, MacIn w m) (hB : ∀ b ∈ bs, BndIn w b) (hP : PodAt w p) (hl : ms.length ≤ maxLen) (hl2 : bs.length ≤ maxLen) :
    Calls Try.prog 9 #[.slice a ms.length ka, .slice c bs.length kc, .agg (prow p).toArray] w fun e w' => e = .returned (.bool true) ∧ Below w.heap.size w w' := by
  obtain ⟨W, hW⟩ : ∃ W, W = (w.alloc (.cells #[.string (p).nm, .int .i64 (p).n0, .int .i64 (p).n1, .int .i64 (p).n2, .int .i64 (p).n3, .int .i64 (p).n4, .slice (p).la (p).labs.length (p).lk, .slice (p).sa (p).sels.length (p).sk, .slice (p).ta (p).trms.length (p).tk, .slice (p).ba (p).bers.length (p).bk, .slice (p).pa (p).prts.length (p).pk, .slice (p).aa (p).aprs.length (p).ak, .bool (p).wd, .slice (p).da (p).spds.length (p).dk, .int .i64 (p).sw, .int .i64 (p).rk, .string (p).ow, .bool (p).dm, .bool (p).pn, .bool (p).lc] 47)) := ⟨_, rfl⟩
  have hX : Box w.heap.size (prow p) W := by rw [hW]; exact (Box.new w (prow p) 47)
  have hbw : Below w.heap.size w W := by rw [hW]; (repeat' (first | with_reducible exact Below.refl _ _ | with_reducible assumption | with_reducible refine Below.drew ?_ | with_reducible refine below_drewN' ?_ _ | with_reducible refine Below.alloc ?_ ?_ _ | with_reducible refine Below.setCell ?_ ?_ _ | with_reducible refine below_step (by assumption) ?_ ?_ | omega | (simp; done) | (simp; omega)))
  have HB := Lib.hid hbw
  have HX := Lib.hid hX
  have HRt := Lib.hid (fun V (hV : Below w.heap.size w V) => fright_any a c ka kc ms bs p V (hF.mono hV) (hG.mono hV) (fun m hm => (hA m hm).mono hV) (fun b hb => (hB b hb).mono hV) (hP.mono hV) hl hl2)
  have HRp := Lib.hid (fun V (h : Box w.heap.size (prow p) V) => show V.rangeAt w.heap.size 0 [.string (p).nm, .int .i64 (p).n0, .int .i64 (p).n1, .int .i64 (p).n2, .int .i64 (p).n3, .int .i64 (p).n4, .slice (p).la (p).labs.length (p).lk, .slice (p).sa (p).sels.length (p).sk, .slice (p).ta (p).trms.length (p).tk, .slice (p).ba (p).bers.length (p).bk, .slice (p).pa (p).prts.length (p).pk, .slice (p).aa (p).aprs.length (p).ak, .bool (p).wd, .slice (p).da (p).spds.length (p).dk, .int .i64 (p).sw, .int .i64 (p).rk, .string (p).ow, .bool (p).dm, .bool (p).pn, .bool (p).lc] from h.range)
  obtain ⟨g, hg⟩ : ∃ g, rightF ms bs p = g := ⟨_, rfl⟩
  rw [hg] at HRt
  obtain ⟨N, hN⟩ : ∃ N, bs.length = N := ⟨_, rfl⟩
  obtain ⟨n, hn⟩ : ∃ n, ms.length = n := ⟨_, rfl⟩
  rw [hn, hN] at HRt ⊢
  have HRt := Lib.hid (show ∀ V, Below w.heap.size w V → Calls Try.prog 34 #[.slice a n ka, .slice c N kc, .agg #[.string (p).nm, .int .i64 (p).n0, .int .i64 (p).n1, .int .i64 (p).n2, .int .i64 (p).n3, .int .i64 (p).n4, .slice (p).la (p).labs.length (p).lk, .slice (p).sa (p).sels.length (p).sk, .slice (p).ta (p).trms.length (p).tk, .slice (p).ba (p).bers.length (p).bk, .slice (p).pa (p).prts.length (p).pk, .slice (p).aa (p).aprs.length (p).ak, .bool (p).wd, .slice (p).da (p).spds.length (p).dk, .int .i64 (p).sw, .int .i64 (p).rk, .string (p).ow, .bool (p).dm, .bool (p).pn, .bool (p).lc]] V fun e w' => e = .returned (.bool g) ∧ Below V.heap.size V w' from HRt.out)
  show Calls Try.prog 9 #[.slice a n ka, .slice c N kc, .agg #[.string (p).nm, .int .i64 (p).n0, .int .i64 (p).n1, .int .i64 (p).n2, .int .i64 (p).n3, .int .i64 (p).n4, .slice (p).la (p).labs.length (p).lk, .slice (p).sa (p).sels.length (p).sk, .slice (p).ta (p).trms.length (p).tk, .slice (p).ba (p).bers.length (p).bk, .slice (p).pa (p).prts.length (p).pk, .slice (p).aa (p).aprs.length (p).ak, .bool (p).wd, .slice (p).da (p).spds.length (p).dk, .int .i64 (p).sw, .int .i64 (p).rk, .string (p).ow, .bool (p).dm, .bool (p).pn, .bool (p).lc]] w _
  cases g with
  | false =>
    clear hg hX hbw hF hG hA hB hP hl hl2 hN hn
    go_enter Try.func9, Try.ntmps9
    go_upto_region 1 with (fail)
    rw [← hW]
    clear hW
    go_wp2_with (first
      | ((with_reducible refine at_load (ty := 47) ?_); refine load_cells rfl 47 (.tmp 5) rfl w.heap.size 0 rfl [.string (p).nm, .int .i64 (p).n0, .int .i64 (p).n1, .int .i64 (p).n2, .int .i64 (p).n3, .int .i64 (p).n4, .slice (p).la (p).labs.length (p).lk, .slice (p).sa (p).sels.length (p).sk, .slice (p).ta (p).trms.length (p).tk, .slice (p).ba (p).bers.length (p).bk, .slice (p).pa (p).prts.length (p).pk, .slice (p).aa (p).aprs.length (p).ak, .bool (p).wd, .slice (p).da (p).spds.length (p).dk, .int .i64 (p).sw, .int .i64 (p).rk, .string (p).ow, .bool (p).dm, .bool (p).pn, .bool (p).lc] _ Try.underlying47 rfl (by kernel_rfl) (HRp.out _ HX.out) ?_)
      | (go_at_call 34; (with_reducible refine (HRt.out _ HB.out).mono ?_); rintro e w1 ⟨rfl, hb⟩; have HB1 := Lib.hid (HB.out.trans (hb.mono HB.out.size)); clear hb)
      | (go_at_call 35; (with_reducible refine (fknown_any _).mono ?_); rintro e w2 ⟨rfl, hb⟩; have HB2 := Lib.hid (HB1.out.trans (hb.mono HB1.out.size)); clear hb))
    go_ret
    exact ⟨rfl, HB2.out⟩
  | true =>
    obtain ⟨hly, hlp, hck, hrp⟩ := rightF_iff hg
    have H0 := Lib.hid (show SF w a ms c bs p W from ⟨ya_of (hF.mono hbw) (hG.mono hbw) (fun m hm => (hA m hm).mono hbw) (fun b hb => (hB b hb).mono hbw) hly, hX, hP.mono hbw, hbw⟩)
    have hnb := H0.out.ya.mm
    rw [hn] at hnb
    have HTa := Lib.hid (show ∀ V, SF w a ms c bs p V → Calls Try.prog 36 #[.slice a n ka, .slice c N kc, .agg #[.string (p).nm, .int .i64 (p).n0, .int .i64 (p).n1, .int .i64 (p).n2, .int .i64 (p).n3, .int .i64 (p).n4, .slice (p).la (p).labs.length (p).lk, .slice (p).sa (p).sels.length (p).sk, .slice (p).ta (p).trms.length (p).tk, .slice (p).ba (p).bers.length (p).bk, .slice (p).pa (p).prts.length (p).pk, .slice (p).aa (p).aprs.length (p).ak, .bool (p).wd, .slice (p).da (p).spds.length (p).dk, .int .i64 (p).sw, .int .i64 (p).rk, .string (p).ow, .bool (p).dm, .bool (p).pn, .bool (p).lc]] V fun e w' => e = .returned (.agg #[.int .i64 (tc (whyL ms bs p) 0 : Nat), .int .i64 (tc (whyL ms bs p) 1 : Nat), .int .i64 (tc (whyL ms bs p) 2 : Nat), .int .i64 (tc (whyL ms bs p) 3 : Nat), .int .i64 (tc (whyL ms bs p) 4 : Nat), .int .i64 (tc (whyL ms bs p) 5 : Nat), .int .i64 (tc (whyL ms bs p) 6 : Nat), .int .i64 (tc (whyL ms bs p) 7 : Nat), .int .i64 (tc (whyL ms bs p) 8 : Nat)]) ∧ Below V.heap.size V w' from fun V hV => by
      have h9 := tally_any a c ka kc ms bs p V hV.ya hV.pa hlp
      rw [hn, hN] at h9
      exact h9)
    have HWh := Lib.hid (show ∀ V, SF w a ms c bs p V → Calls Try.prog 37 #[.slice a n ka, .slice c N kc, .agg #[.string (p).nm, .int .i64 (p).n0, .int .i64 (p).n1, .int .i64 (p).n2, .int .i64 (p).n3, .int .i64 (p).n4, .slice (p).la (p).labs.length (p).lk, .slice (p).sa (p).sels.length (p).sk, .slice (p).ta (p).trms.length (p).tk, .slice (p).ba (p).bers.length (p).bk, .slice (p).pa (p).prts.length (p).pk, .slice (p).aa (p).aprs.length (p).ak, .bool (p).wd, .slice (p).da (p).spds.length (p).dk, .int .i64 (p).sw, .int .i64 (p).rk, .string (p).ow, .bool (p).dm, .bool (p).pn, .bool (p).lc]] V (GivesT V (whereF ms bs p)) from fun V hV => by
      have h9 := where_any a c ka kc ms bs p V hV.ya hV.pa hlp
      rw [hn, hN] at h9
      exact h9)
    have HWy := Lib.hid (show ∀ V, SF w a ms c bs p V → ∀ x ∈ whereF ms bs p, Calls Try.prog 38 #[.slice a n ka, .slice c N kc, .agg #[.string (p).nm, .int .i64 (p).n0, .int .i64 (p).n1, .int .i64 (p).n2, .int .i64 (p).n3, .int .i64 (p).n4, .slice (p).la (p).labs.length (p).lk, .slice (p).sa (p).sels.length (p).sk, .slice (p).ta (p).trms.length (p).tk, .slice (p).ba (p).bers.length (p).bk, .slice (p).pa (p).prts.length (p).pk, .slice (p).aa (p).aprs.length (p).ak, .bool (p).wd, .slice (p).da (p).spds.length (p).dk, .int .i64 (p).sw, .int .i64 (p).rk, .string (p).ow, .bool (p).dm, .bool (p).pn, .bool (p).lc], .string x] V fun e w' => e = .returned (.int .i64 0) ∧ Below V.heap.size V w' from fun V hV x hx => by
      have h9 := fwhy_any a c ka kc ms bs p x V hV.ya hV.pa hlp
      rw [hn, hN, where_why hx] at h9
      exact h9)
    obtain ⟨L, hL⟩ : ∃ L, whyL ms bs p = L := ⟨_, rfl⟩
    obtain ⟨Z, hZ⟩ : ∃ Z, whereF ms bs p = Z := ⟨_, rfl⟩
    have hLl : L.length = n := by rw [← hL, whyL_len, hn]
    have HS9 := Lib.hid (show sumT L 9 = n by rw [← hL, sumT_nine _ (whyL_range ms bs p), whyL_len, hn])
    have HT0 := Lib.hid (show tc L 0 = Z.length by rw [← hL, ← hZ]; exact tc_where ms bs p)
    have hzl := where_len ms bs p
    rw [hZ, hn] at hzl
    rw [hL] at HTa
    rw [hZ] at HWh HWy
    obtain ⟨nz, hnz⟩ : ∃ nz, Z.length = nz := ⟨_, rfl⟩
    have Hnz := Lib.hid hnz
    rw [hnz] at HT0 hzl
    clear hg hX hbw hF hG hA hB hP hl hl2 hN hn hly hlp hck hrp hL hZ hnz
    go_enter Try.func9, Try.ntmps9
    go_upto_region 1 with (fail)
    rw [← hW]
    clear hW
    go_upto_region 5 with (first
      | ((with_reducible refine at_load (ty := 47) ?_); refine load_cells rfl 47 (.tmp 5) rfl w.heap.size 0 rfl [.string (p).nm, .int .i64 (p).n0, .int .i64 (p).n1, .int .i64 (p).n2, .int .i64 (p).n3, .int .i64 (p).n4, .slice (p).la (p).labs.length (p).lk, .slice (p).sa (p).sels.length (p).sk, .slice (p).ta (p).trms.length (p).tk, .slice (p).ba (p).bers.length (p).bk, .slice (p).pa (p).prts.length (p).pk, .slice (p).aa (p).aprs.length (p).ak, .bool (p).wd, .slice (p).da (p).spds.length (p).dk, .int .i64 (p).sw, .int .i64 (p).rk, .string (p).ow, .bool (p).dm, .bool (p).pn, .bool (p).lc] _ Try.underlying47 rfl (by kernel_rfl) (by first | exact H1.out.rng | exact H0.out.rng) ?_)
      | (go_at_call 34; (with_reducible refine (HRt.out _ HB.out).mono ?_); rintro e w1 ⟨rfl, hb⟩; have H1 := Lib.hid (H0.out.mono hb); clear hb)
      | (go_at_call 36; (with_reducible refine (HTa.out _ H1.out).mono ?_); rintro e w2 ⟨rfl, hb⟩; have H2 := Lib.hid (H1.out.mono hb); clear hb)
      | ((with_reducible refine at_store (ty := 63) ?_); refine store_new rfl 63 (.tmp 7) (.tmp 21) rfl _ _ rfl rfl (by kernel_rfl) rfl (List.all_eq_true.2 (tcl_one L)) rfl ?_))
    obtain ⟨T, hT⟩ : ∃ T, w2.heap.size = T := ⟨_, rfl⟩
    rw [hT]
    obtain ⟨V, hV⟩ : ∃ V, V = w2.alloc (.cells #[.int .i64 (tc L 0 : Nat), .int .i64 (tc L 1 : Nat), .int .i64 (tc L 2 : Nat), .int .i64 (tc L 3 : Nat), .int .i64 (tc L 4 : Nat), .int .i64 (tc L 5 : Nat), .int .i64 (tc L 6 : Nat), .int .i64 (tc L 7 : Nat), .int .i64 (tc L 8 : Nat)] 63) := ⟨_, rfl⟩
    have HV := Lib.hid (show SF w a ms c bs p V by rw [hV]; exact H2.out.mono ((Below.refl _ _).alloc (Nat.le_refl _) _))
    have HTb := Lib.hid (show Blk V T 63 (tcl L) by rw [hV, ← hT]; exact Blk.new w2 63 (tcl L))
    rw [← hV]
    clear hV hT H0 H1 H2 HB HX HRp HRt HTa
    go_wp2
    go_loopw [8, 9] (fun vs vi wr => ∃ i : Nat, i ≤ 9 ∧ vi = .int .i64 i ∧ vs = .int .i64 (sumT L i : Nat) ∧ wr = V) (fun _ vi _ => 9 - (intOf vi).toNat)
    case atStart => exact ⟨0, Nat.zero_le _, rfl, rfl, rfl⟩
    case round =>
      obtain ⟨i, hi, rfl, rfl, rfl⟩ := hrel
      by_cases hlt : i < 9
      · have c0 : wr.cell? ⟨T, i, none⟩ = some (.int .i64 (tc L (i : Int) : Nat)) := (HTb.out.cell i).trans (tcl_at L hlt)
        have hs1 := sumT_le L i
        have hs2 := tc_le L (i : Int)
        have hs3 : i * L.length ≤ 9 * 1000 := Nat.mul_le_mul hi (by omega)
        have HNx := Lib.hid (show sumT L (i + 1) = sumT L i + tc L (i : Int) from rfl)
        obtain ⟨s, hs⟩ : ∃ s, sumT L i = s := ⟨_, rfl⟩
        obtain ⟨t, ht⟩ : ∃ t, tc L (i : Int) = t := ⟨_, rfl⟩
        rw [hs, ht] at HNx
        rw [ht] at c0 hs2
        rw [hs] at hs1 ⊢
        have hw9 : IntKind.i64.wrap ((s : Int) + (t : Int)) = (s : Int) + (t : Int) := wrap_in (by omega) (by omega)
        clear hs ht
        go_wp2
        go_roundw
        case rel => exact ⟨i + 1, by omega, by go_num, by rw [HNx.out]; rfl, by trivial⟩
        case measure => simp [intOf]; omega
      · obtain rfl : i = 9 := by omega
        rw [HS9.out]
        go_wp2_with (first
          | ((with_reducible refine at_load (ty := 47) ?_); refine load_cells rfl 47 (.tmp 5) rfl w.heap.size 0 rfl [.string (p).nm, .int .i64 (p).n0, .int .i64 (p).n1, .int .i64 (p).n2, .int .i64 (p).n3, .int .i64 (p).n4, .slice (p).la (p).labs.length (p).lk, .slice (p).sa (p).sels.length (p).sk, .slice (p).ta (p).trms.length (p).tk, .slice (p).ba (p).bers.length (p).bk, .slice (p).pa (p).prts.length (p).pk, .slice (p).aa (p).aprs.length (p).ak, .bool (p).wd, .slice (p).da (p).spds.length (p).dk, .int .i64 (p).sw, .int .i64 (p).rk, .string (p).ow, .bool (p).dm, .bool (p).pn, .bool (p).lc] _ Try.underlying47 rfl (by kernel_rfl) HV.out.rng ?_)
          | (go_at_call 37; (with_reducible refine (HWh.out _ HV.out).mono ?_); rintro e w3 ⟨⟨v, rfl, hv⟩, hb⟩; obtain ⟨az, kz, rfl, -, hrz⟩ := IsL.of_own scs_len (by decide) hv; have HT3 := Lib.hid hrz; have H3 := Lib.hid (HV.out.mono hb); have HTb3 := Lib.hid (HTb.out.below hb); clear hv hrz hb; rw [Hnz.out]))
        obtain ⟨V3, hV3⟩ : ∃ V3, V3 = w3 := ⟨_, rfl⟩
        rw [← hV3] at HT3 H3 HTb3 ⊢
        clear hV3 HWh HTb HV
        go_loopw [11] (fun vi wr => ∃ k : Nat, k ≤ nz ∧ vi = .int .i64 k ∧ Below V3.heap.size V3 wr) (fun vi _ => nz - (intOf vi).toNat)
        case atStart => exact ⟨0, Nat.zero_le _, rfl, Below.refl _ _⟩
        case round =>
          obtain ⟨k, hk, rfl, hB⟩ := hrel
          have HB := Lib.hid hB
          have H4 := Lib.hid (H3.out.mono hB)
          have HTb4 := Lib.hid (HTb3.out.below hB)
          by_cases hlt : k < nz
          · obtain ⟨z, hz⟩ := mem_at (l := Z) (k := k) (by rw [Hnz.out]; exact hlt)
            obtain ⟨q, o, rfl, hq, hc⟩ := (HT3.out.mono hB) (by rw [Hnz.out]; omega)
            have c0 : wr.cell? ⟨q, o + k, none⟩ = some (.string z) := by
              have h9 := hc k z hz 0 (by decide)
              rw [Nat.mul_one] at h9
              exact h9
            have hlx := H4.out.bx.lt
            have HRx := Lib.hid H4.out.rng
            have HWz := Lib.hid (fun V hV => HWy.out V hV z (List.mem_of_getElem? hz))
            clear hc hz hB
            go_upto_region 13 with (fail)
            have hcH := held_cell
            refine region_rel (by kernel_rfl) (by kernel_rfl) ?_
            repeat
              ((with_reducible refine relStep (fun K hK => ?_))
               (have HK := Lib.hid hK)
               clear hK
               (apply relInl
                · intro r n hf
                  have Hf := Lib.hid hf
                  clear hf
                  (first
                    | (((with_reducible refine at_rel (ty := 47) ?_); refine rel_load rfl w.heap.size 0 rfl [.string (p).nm, .int .i64 (p).n0, .int .i64 (p).n1, .int .i64 (p).n2, .int .i64 (p).n3, .int .i64 (p).n4, .slice (p).la (p).labs.length (p).lk, .slice (p).sa (p).sels.length (p).sk, .slice (p).ta (p).trms.length (p).tk, .slice (p).ba (p).bers.length (p).bk, .slice (p).pa (p).prts.length (p).pk, .slice (p).aa (p).aprs.length (p).ak, .bool (p).wd, .slice (p).da (p).spds.length (p).dk, .int .i64 (p).sw, .int .i64 (p).rk, .string (p).ow, .bool (p).dm, .bool (p).pn, .bool (p).lc] _ Try.underlying47 rfl (by kernel_rfl) (rangeAt_mono HRx.out hlx n.below) rfl))
                    | (unfold relAt
                       go_simp
                       (first | (refine relUpon_val ?_ (Below.refl _ _); exact rfl) | exact rfl | (refine relUpon_enter ?_; (go_at_call 38; (with_reducible refine (HWz.out _ (H4.out.mono n.below)).mono ?_); rintro e w9 ⟨rfl, hb⟩; exact ⟨⟨_, rfl, rfl⟩, hb⟩)))))
                (simp only [Act.put, List.setIfInBounds_toArray, List.set_cons_zero, List.set_cons_succ])
                (with_reducible refine HK.out _ _ ?_)
                clear HK K))
            refine relNil ?_
            intro r9 n9 hx9
            clear hcH
            (try simp only [List.nil_append, List.cons_append, List.mem_cons, List.not_mem_nil, or_false, forall_eq_or_imp, forall_eq, false_implies, implies_true] at hx9)
            obtain ⟨w9, hb9⟩ := n9
            (try dsimp only)
            obtain ⟨hc9, hf9⟩ := bcell hb9
            have hz9 := hb9.size
            (try simp at hz9)
            have HB9 := Lib.hid (HB.out.trans (hb9.mono HB.out.size))
            clear hb9 hc9 hf9 hz9
            go_wp2
            go_roundw
            case rel => exact ⟨k + 1, by omega, by go_num, HB9.out⟩
            case measure => simp [intOf]; omega
          · obtain rfl : k = nz := by omega
            have c0 : wr.cell? ⟨T, 0, none⟩ = some (.int .i64 k) := by rw [← HT0.out]; exact HTb4.out.cell 0
            clear hB
            go_wp2_with (go_at_call 35; (with_reducible refine (fknown_any _).mono ?_); rintro e w5 ⟨rfl, hb⟩; have H5 := Lib.hid (H4.out.mono hb); clear hb)
            go_ret
            exact ⟨by first | rfl | trivial, H5.out.bl⟩
set_option maxRecDepth 100000 in
theorem walk {H : Type} {enc : TypeId × Value → H} {W : World} {base : Nat} {v u x : Value} {d e f : DataW H} {p q r : List MemPlace}
    (hv : Value.okWide Try.prog W .any base 22 v) (h : DataW.Trod enc Try.prog W 0 (fun _ => true) true 22 v d p)
    (hu : Value.okWide Try.prog W .any base 23 u) (h2 : DataW.Trod enc Try.prog W 0 (fun _ => true) true 23 u e q)
    (hx : Value.okWide Try.prog W .any base 47 x) (h3 : DataW.Trod enc Try.prog W 0 (fun _ => true) true 47 x f r) :
    Calls Try.prog 9 #[v, u, x] W fun e W' => e = .returned (.bool true) ∧ Below W.heap.size W W' := by
  obtain ⟨a, l, k, rfl, -, hF, hm, -, hI⟩ := open_macs hv h
  obtain ⟨c, l2, k2, rfl, -, hG, hm2, -, hI2⟩ := open_bnds hu h2
  obtain ⟨m, rfl, hP⟩ := open_pod hx h3
  exact walk1 a k l c k2 l2 m W hF hG hI hI2 hP.here hm hm2

set_option maxRecDepth 100000 in
theorem lifted (os : Os) (started : os.Started) (H : Type) (enc : TypeId × Value → H) :
    ReturnsInHanded {} Try.checked os 9 .any (Rows.fitOnceSpec.pre6 enc Try.prog Try.f9 Rows.fitOnceRow.domain false) (Rows.fitOnceSpec.post enc Try.prog Try.f9 false true false false) := by
  refine returnsInHanded_of_change (C := Try.checked) Try.own started (by kernel_rfl) Try.func9
    (ChangeSpec.witness6 (enc := enc) (C := Try.checked) false ⟨#[], #[.slice none 0 0, .slice none 0 0, .agg #[.string ⟨#[]⟩, .int .i64 0, .int .i64 0, .int .i64 0, .int .i64 0, .int .i64 0, .slice none 0 0, .slice none 0 0, .slice none 0 0, .slice none 0 0, .slice none 0 0, .slice none 0 0, .bool false, .slice none 0 0, .int .i64 0, .int .i64 0, .string ⟨#[]⟩, .bool false, .bool false, .bool false]], []⟩ 8 (by kernel_rfl) (by kernel_rfl) (by kernel_rfl) (by kernel_rfl)) ?_
  intro W base args ds gs before hval hW _ _
  have hW' := hW
  obtain ⟨p, q, hA, hV, rfl, hfz, hnd⟩ := hW
  rw [Try.params9] at hA hval
  obtain ⟨v0, v1, v2, d0, d1, d2, p0, p1, p2, rfl, rfl, rfl, h0, h1, h2⟩ := trodAll_three hA
  refine (walk (hval 0 22 v0 rfl rfl) h0 (hval 1 23 v1 rfl rfl) h1 (hval 2 47 v2 rfl rfl) h2).mono fun e W' ⟨he, hb⟩ => ?_
  exact ⟨_, he, law_post Try.laidOut hW' rfl (by kernel_rfl) (by kernel_rfl) Try.underlying4 rfl rfl rfl hb⟩

theorem over : Rows.fitOnceRow.holds Try.pinned (OpenSpec.ofChange Rows.fitOnceSpec) :=
  OpenClaim.holds_of_wide 9 Try.f9 rfl rfl rfl rfl rfl rfl rfl ⟨rfl, rfl, rfl, rfl, rfl⟩ rfl rfl rfl rfl rfl (by kernel_rfl) Try.func9 (by kernel_rfl)
    (of_decide_eq_true (by kernel_rfl)) (by unfold Func.isWrapper; first | (rw [if_pos (by decide +kernel)]; kernel_rfl) | (rw [if_neg (by decide +kernel)]; exact ⟨rfl, rfl⟩))
    (fun os started H enc _ => lifted os started H enc)

/-- The statement. -/
theorem proved : Rows.FitOnceSaid := over
end fitOnce
end Go.Proofs.Ythbpnfpalcgfeaa
