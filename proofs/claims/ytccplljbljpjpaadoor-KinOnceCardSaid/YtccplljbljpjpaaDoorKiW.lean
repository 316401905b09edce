/-
  Kin: KinOnce, walked.
-/
import Derived.Test.YtccplljbljpjpaaDoorKiO
import Derived.Test.YtccplljbljpjpaaDoorKiB
namespace Go.Proofs.YtccplljbljpjpaaDoor
open Go.ChangeShapes Go.WideShapes Go.ChangeAt Go.RowKit
set_option linter.unusedVariables false
set_option linter.unusedSimpArgs false

set_option maxRecDepth 100000 in
set_option maxHeartbeats 32000000 in
theorem konce_any (a : Option Addr) (ka : Nat) (l : List Pd) (w : World) (hF : PodLs w a l) (hl : l.length ≤ maxLen) (hI : ∀ x ∈ l, PodAt w x) (hWT : WT w) (hT : Tab10 w) :
    Calls Tryd.prog 3 #[.slice a l.length ka] w fun e w' => e = .returned (.bool true) ∧ Below w.heap.size w w' := by
  have HKn := Lib.hid (fun V (hV : Below w.heap.size w V) => kknown_any V (hWT.mono hV hWT.sz) (hT.mono hV))
  have HLi := Lib.hid (klight_any a ka l w hF hl hI)
  obtain ⟨m, hm⟩ : ∃ m, lightK l = m := ⟨_, rfl⟩
  rw [hm] at HLi
  cases m with
  | false =>
    clear hF hI hWT hT hm hl
    generalize l.length = n at HLi ⊢
    go_enter Tryd.func3, Tryd.ntmps3
    go_wp2_with (first
      | (go_at_call 5; (with_reducible refine HLi.out.mono ?_); rintro e w1 ⟨rfl, hb⟩; have HB1 := Lib.hid hb; clear hb)
      | (go_at_call 6; (with_reducible refine (HKn.out _ HB1.out).mono ?_); rintro e w2 ⟨rfl, hb⟩; have HB2 := Lib.hid (HB1.out.trans (hb.mono HB1.out.size)); clear hb))
    go_ret
    exact ⟨rfl, HB2.out⟩
  | true =>
    unfold lightK at hm
    simp only [Bool.and_eq_true, decide_eq_true_eq, List.all_eq_true] at hm
    have hl60 := hm.1
    have hL := hm.2
    have HG1 := Lib.hid (fun V (hV : Below w.heap.size w V) => groups_any a ka l V (hF.mono hV) (by omega) (fun x hx => (hI x hx).mono hV) hL (hWT.mono hV hWT.sz) (hT.mono hV))
    have HTl := Lib.hid (fun V (hV : Below w.heap.size w V) => stotal_any a ka l V (hF.mono hV) (by omega) (fun x hx => (hI x hx).mono hV) hL)
    have HTp := Lib.hid (fun (Q : List Pd) (hQ : ∀ x ∈ Q, x ∈ l) c kc V (hV : Below w.heap.size w V) (h : PodLs V c Q) (hq : Q.length ≤ 1000000) => stotal_any c kc Q V h hq (fun x hx => (hI x (hQ x hx)).mono hV) (fun x hx => hL x (hQ x hx)))
    have HAl := Lib.hid (fun p (hp : p ∈ l) r (hr : r ∈ l) V (hV : Below w.heap.size w V) => show Calls Tryd.prog 8 #[.agg #[.string (p).nm, .int .i64 (p).n0, .int .i64 (p).n1, .int .i64 (p).n2, .int .i64 (p).n3, .int .i64 (p).n4, .slice (p).la (p).labs.length (p).lk, .slice (p).sa (p).sels.length (p).sk, .slice (p).ta (p).trms.length (p).tk, .slice (p).ba (p).bers.length (p).bk, .slice (p).pa (p).prts.length (p).pk, .slice (p).aa (p).aprs.length (p).ak, .bool (p).wd, .slice (p).da (p).spds.length (p).dk, .int .i64 (p).sw, .int .i64 (p).rk, .string (p).ow, .bool (p).dm, .bool (p).pn, .bool (p).lc], .agg #[.string (r).nm, .int .i64 (r).n0, .int .i64 (r).n1, .int .i64 (r).n2, .int .i64 (r).n3, .int .i64 (r).n4, .slice (r).la (r).labs.length (r).lk, .slice (r).sa (r).sels.length (r).sk, .slice (r).ta (r).trms.length (r).tk, .slice (r).ba (r).bers.length (r).bk, .slice (r).pa (r).prts.length (r).pk, .slice (r).aa (r).aprs.length (r).ak, .bool (r).wd, .slice (r).da (r).spds.length (r).dk, .int .i64 (r).sw, .int .i64 (r).rk, .string (r).ow, .bool (r).dm, .bool (r).pn, .bool (r).lc]] V fun e w' => e = .returned (.bool (alikeK p r)) ∧ Below V.heap.size V w' from alike_any p r V ((hI p hp).mono hV) ((hI r hr).mono hV) (hL p hp) (hL r hr) (hWT.mono hV hWT.sz) (hT.mono hV))
    unfold GivesK at HG1
    obtain ⟨n, hn⟩ : ∃ n, l.length = n := ⟨_, rfl⟩
    obtain ⟨G, hG⟩ : ∃ G, (grpK l).1 = G := ⟨_, rfl⟩
    obtain ⟨er, her⟩ : ∃ e, (grpK l).2 = e := ⟨_, rfl⟩
    obtain ⟨m, hm2⟩ : ∃ m, G.length = m := ⟨_, rfl⟩
    by_cases he0 : er = 0
    · subst he0
      obtain ⟨hrt, D, hV⟩ := grpK_ok her
      have hle := grpK_le l
      rw [hG, her, hm2, hn] at HG1
      rw [hG] at hV hle
      rw [hm2, hn] at hle
      have HPd := Lib.hid (fun i g (hg : G[i]? = some g) => hV.pods hg)
      have hperm := hV.perm
      have HNe := Lib.hid hV.ne
      have HAp := Lib.hid (fun i j d e (hi : D[i]? = some d) (hj : D[j]? = some e) (hij : j < i) => hV.apart hi hj hij)
      rw [hn] at hperm
      have HPm := Lib.hid hperm
      have HPk := Lib.hid (show (pkP l G.flatten).Perm l from pkP_perm (by rw [hn]; exact hperm))
      have HRt := Lib.hid hrt
      have HGm := Lib.hid hm2
      have HGle := Lib.hid hle.2
      have hm60 : m ≤ 60 := by omega
      have HN := Lib.hid hn
      have HF := Lib.hid hF
      rw [hn] at HLi HTl hl60 ⊢
      have hmk := fun V => kmadei n V (by omega)
      clear hF hI hL hWT hT hm hl hn hG her hm2 hV hle hrt hperm
      go_enter Tryd.func3, Tryd.ntmps3
      go_upto_region 7 with (first
        | (go_at_call 5; (with_reducible refine HLi.out.mono ?_); rintro e w1 ⟨rfl, hb⟩; have HB1 := Lib.hid hb; clear hb)
        | (go_at_call 7; (with_reducible refine (HG1.out _ HB1.out).mono ?_); rintro e w2 ⟨⟨a2, c2, rfl, hg⟩, hb⟩; have HB2 := Lib.hid (HB1.out.trans (hb.mono HB1.out.size)); have HGr := Lib.hid hg; clear hg hb))
      obtain ⟨N, hNw⟩ : ∃ N, w2.heap.size = N := ⟨_, rfl⟩
      have HNw := Lib.hid hNw
      obtain ⟨w3, hw3⟩ : ∃ V, V = w2.alloc (.cells (madeCells #[.int .i64 0] n) 3) := ⟨_, rfl⟩
      have HC3 := Lib.hid (show Blk w3 N 3 (cntV [] n) by rw [hw3, ← hNw, ← made_cnt]; exact Blk.new w2 3 _)
      have hb3 : Below w2.heap.size w2 w3 := by rw [hw3]; exact (Below.refl _ _).alloc (Nat.le_refl _) _
      have hz3 : w3.heap.size = N + 1 := by rw [hw3, World.size_alloc, hNw]
      rw [← hw3]
      rw [hNw] at hb3 ⊢
      have HB3 := Lib.hid hb3
      clear hw3 hmk hNw hb3 HB1 HG1 HLi
      go_upto_region 8 with (((with_reducible refine at_store (ty := 31) ?_); refine store_new rfl 31 (.tmp 6) (.tmp 40) rfl _ _ rfl rfl (by kernel_rfl) rfl (by rfl) rfl ?_))
      obtain ⟨w4, hw4⟩ : ∃ V, V = w3.alloc (.cells #[.int .i64 0, .int .i64 0, .int .i64 0, .int .i64 0, .int .i64 0] 31) := ⟨_, rfl⟩
      have HC4 := Lib.hid (show Blk w4 N 3 (cntV (G.take 0).flatten n) by rw [hw4]; exact HC3.out.alloc _)
      have HS4 := Lib.hid (show Blk w4 (N + 1) 31 R5.z.l by rw [hw4, ← hz3]; exact Blk.new w3 31 _)
      have HB4 := Lib.hid (show Below N w2 w4 by rw [hw4]; exact HB3.out.alloc (by rw [hz3]; omega) _)
      have HSI := Lib.hid (show SI false R5.z (pkP l (G.take 0).flatten) from SI.nil)
      rw [← hw4]
      clear hz3 hw4 HC3 HB3
      go_wp2
      go_loopw [7, 8] (fun vo vi wr => ∃ (i : Nat) (ov : Bool) (r : R5), i ≤ m ∧ vo = .bool ov ∧ vi = .int .i64 i ∧ SI ov r (pkP l (G.take i).flatten) ∧ Blk wr N 3 (cntV (G.take i).flatten n) ∧ Blk wr (N + 1) 31 r.l ∧ Below N w2 wr) (fun _ vi _ => m - (intOf vi).toNat)
      case atStart => exact ⟨0, false, R5.z, Nat.zero_le _, rfl, rfl, HSI.out, HC4.out, HS4.out, HB4.out⟩
      case round =>
        clear HSI HC4 HS4 HB4
        obtain ⟨i, ov, r, hi, rfl, rfl, hSI, hC, hS, hB⟩ := hrel
        have HSI := Lib.hid hSI
        have HC := Lib.hid hC
        have HS := Lib.hid hS
        have HB := Lib.hid hB
        clear hSI hC hS hB
        obtain ⟨V, hV0⟩ : ∃ V, V = wr := ⟨_, rfl⟩
        subst hV0
        by_cases hlt : i < m
        · obtain ⟨g, hg⟩ := mem_at (l := G) (k := i) (by rw [HGm.out]; exact hlt)
          obtain ⟨d, hd, hpd⟩ := HPd.out i g hg
          obtain ⟨x0, t, hgt⟩ := List.exists_cons_of_ne_nil (HNe.out g (List.mem_of_getElem? hg))
          obtain ⟨n0, p0, hx0, hn0, hp0, hk0⟩ := hpd 0 x0 (by rw [hgt]; rfl)
          rw [HN.out] at hn0
          obtain ⟨L, hL⟩ : ∃ L, g.length = L := ⟨_, rfl⟩
          have hL0 : 0 < L := by rw [← hL, hgt]; simp
          have hL60 : L ≤ 60 := by have := HGle.out g (List.mem_of_getElem? hg); omega
          have HL := Lib.hid hL
          have HG := Lib.hid hg
          have HDd := Lib.hid hd
          have HPg := Lib.hid hpd
          have HX0 := Lib.hid (show g[0]? = some (n0 : Int) by rw [hgt, ← hx0]; rfl)
          have HP0 := Lib.hid hp0
          have HK0 := Lib.hid hk0
          obtain ⟨bG, oG, rfl⟩ := HGr.out.addr (by rw [HGm.out]; omega)
          have HRow := Lib.hid (fun wx (h : Below N w2 wx) => (GrL.mono2 HGr.out (by rw [HNw.out]; exact h)).row hg (by rw [hL]; exact hL0))
          have HRowJ := Lib.hid (fun wx (h : Below N w2 wx) (j : Nat) (f : List Int) (hf : G[j]? = some f) (hf0 : 0 < f.length) => (GrL.mono2 HGr.out (by rw [HNw.out]; exact h)).row hf hf0)
          have hSl := HS.out.lt
          obtain ⟨X, hX⟩ : ∃ X, V.heap.size = X := ⟨_, rfl⟩
          have HX := Lib.hid hX
          have HQ0 := Lib.hid (show V.ownsRow X 37 20 (.slice none 0 0) ([] : List Pd).length (([] : List Pd).flatMap prow) from World.ownsRow_nil _ _ _ _)
          have HC0 := Lib.hid (show Blk V N 3 (cntV ((G.take i).flatten ++ g.take 0) n) by rw [List.take_zero, List.append_nil]; exact HC.out)
          have hNX : N + 1 < X := by rw [← hX]; exact hSl
          rw [hL] at HRow
          clear hg hd hpd hgt hx0 hp0 hk0 hL hX hSl
          go_wp2
          go_loopw [9, 10] (fun vp vk wq => ∃ (k : Nat) (Q : List Pd), k ≤ L ∧ vk = .int .i64 k ∧ Q = pkP l (g.take k) ∧ Q.length ≤ k ∧ wq.ownsRow X 37 20 vp Q.length (Q.flatMap prow) ∧ Blk wq N 3 (cntV ((G.take i).flatten ++ g.take k) n) ∧ Blk wq (N + 1) 31 r.l ∧ Below N w2 wq ∧ X ≤ wq.heap.size) (fun _ vk _ => L - (intOf vk).toNat)
          case atStart => exact ⟨0, [], Nat.zero_le _, rfl, rfl, Nat.le_refl _, HQ0.out, HC0.out, HS.out, HB.out, by rw [HX.out]; exact Nat.le_refl _⟩
          case round =>
            clear HQ0 HC0 HS HB HC HX
            obtain ⟨k, Q, hk, rfl, hQ, hQk, hO, hC, hS, hB, hXs⟩ := hrel
            obtain ⟨ao, ko, rfl⟩ := own_sl hO
            obtain ⟨q, hq⟩ : ∃ q, Q.length = q := ⟨_, rfl⟩
            rw [hq] at hO hQk ⊢
            have Hq := Lib.hid hq
            have HQ := Lib.hid hQ
            have HO := Lib.hid hO
            have HC := Lib.hid hC
            have HS := Lib.hid hS
            have HB := Lib.hid hB
            obtain ⟨cg, co, kc, hbG, hcg, c0, hci⟩ := HRow.out _ hB
            have HCi := Lib.hid hci
            clear hQ hq hO hC hS hB hci
            obtain ⟨W, hWw⟩ : ∃ V, V = wr := ⟨_, rfl⟩
            subst hWw
            by_cases hkL : k < L
            · obtain ⟨x, hx⟩ := mem_at (l := g) (k := k) (by rw [HL.out]; exact hkL)
              obtain ⟨nn, p, rfl, hnn, hp, hkp⟩ := HPg.out k x hx
              rw [HN.out] at hnn
              obtain ⟨b, o, rfl, hb, hc⟩ := (HF.out.mono HB2.out) (by rw [HN.out]; omega)
              have HC9 := Lib.hid (fun (i : Nat) (p : Pd) (h : l[i]? = some p) => show w2.rangeAt b (o + i * 20) [.string (p).nm, .int .i64 (p).n0, .int .i64 (p).n1, .int .i64 (p).n2, .int .i64 (p).n3, .int .i64 (p).n4, .slice (p).la (p).labs.length (p).lk, .slice (p).sa (p).sels.length (p).sk, .slice (p).ta (p).trms.length (p).tk, .slice (p).ba (p).bers.length (p).bk, .slice (p).pa (p).prts.length (p).pk, .slice (p).aa (p).aprs.length (p).ak, .bool (p).wd, .slice (p).da (p).spds.length (p).dk, .int .i64 (p).sw, .int .i64 (p).rk, .string (p).ow, .bool (p).dm, .bool (p).pn, .bool (p).lc] from fun j v hj => by
                have hj20 : j < 20 := (List.getElem?_eq_some_iff.1 hj).1
                rw [hc i p h j hj20]
                exact hj)
              have Hhb := Lib.hid hb
              have HRq := Lib.hid (HC9.out nn p hp)
              have HR0 := Lib.hid (HC9.out n0 p0 HP0.out)
              have d0 := HCi.out k _ hx
              have d1 := HCi.out 0 _ HX0.out
              rw [Nat.add_zero] at d1
              have HA1 := Lib.hid (fun V (hV : Below w.heap.size w V) => show Calls Tryd.prog 8 #[.agg #[.string (p).nm, .int .i64 (p).n0, .int .i64 (p).n1, .int .i64 (p).n2, .int .i64 (p).n3, .int .i64 (p).n4, .slice (p).la (p).labs.length (p).lk, .slice (p).sa (p).sels.length (p).sk, .slice (p).ta (p).trms.length (p).tk, .slice (p).ba (p).bers.length (p).bk, .slice (p).pa (p).prts.length (p).pk, .slice (p).aa (p).aprs.length (p).ak, .bool (p).wd, .slice (p).da (p).spds.length (p).dk, .int .i64 (p).sw, .int .i64 (p).rk, .string (p).ow, .bool (p).dm, .bool (p).pn, .bool (p).lc], .agg #[.string (p0).nm, .int .i64 (p0).n0, .int .i64 (p0).n1, .int .i64 (p0).n2, .int .i64 (p0).n3, .int .i64 (p0).n4, .slice (p0).la (p0).labs.length (p0).lk, .slice (p0).sa (p0).sels.length (p0).sk, .slice (p0).ta (p0).trms.length (p0).tk, .slice (p0).ba (p0).bers.length (p0).bk, .slice (p0).pa (p0).prts.length (p0).pk, .slice (p0).aa (p0).aprs.length (p0).ak, .bool (p0).wd, .slice (p0).da (p0).spds.length (p0).dk, .int .i64 (p0).sw, .int .i64 (p0).rk, .string (p0).ow, .bool (p0).dm, .bool (p0).pn, .bool (p0).lc]] V fun e w' => e = .returned (.bool true) ∧ Below V.heap.size V w' from (HAl.out p (List.mem_of_getElem? hp) p0 (List.mem_of_getElem? HP0.out) V hV).mono (fun e w' h => by rw [alike_yes (HRt.out p (List.mem_of_getElem? hp)) (hkp.trans HK0.out.symm)] at h; exact h))
              have hBw : Below w.heap.size w W := HB2.out.trans (HB.out.mono (by rw [← HNw.out]; exact HB2.out.size))
              have HBw := Lib.hid hBw
              have lb : b < W.heap.size := Nat.lt_of_lt_of_le hb HB.out.size
              have q0 : decide ((nn : Int) < 0) = false := decide_eq_false (by omega)
              have q1 : decide ((n : Int) ≤ (nn : Int)) = false := decide_eq_false (by omega)
              have q2 : decide (n ≤ nn) = false := decide_eq_false (by omega)
              have q3 : decide (nn < n) = true := decide_eq_true hnn
              have q4 : decide ((nn : Int) < (n : Int)) = true := decide_eq_true (by omega)
              have HXk := Lib.hid hx
              have HPp := Lib.hid hp
              have HKp := Lib.hid hkp
              have h2b := HB.out
              rw [← HNw.out] at h2b
              have H2b := Lib.hid h2b
              have hWz := HBw.out.size
              clear hx hp hkp hc hBw h2b hb
              go_upto_region 17 with (fail)
              have hcH := held_cell
              refine region_rel (by kernel_rfl) (by kernel_rfl) ?_
              repeat
                ((with_reducible refine relStep (fun K hK => ?_))
                 (have HK := Lib.hid hK)
                 clear hK
                 (apply relInl
                  · intro r n hf
                    have Hf := Lib.hid hf
                    clear hf
                    (first
                      | (((with_reducible refine at_rel (ty := 37) ?_); first | refine rel_load rfl b (o + nn * 20) rfl [.string (p).nm, .int .i64 (p).n0, .int .i64 (p).n1, .int .i64 (p).n2, .int .i64 (p).n3, .int .i64 (p).n4, .slice (p).la (p).labs.length (p).lk, .slice (p).sa (p).sels.length (p).sk, .slice (p).ta (p).trms.length (p).tk, .slice (p).ba (p).bers.length (p).bk, .slice (p).pa (p).prts.length (p).pk, .slice (p).aa (p).aprs.length (p).ak, .bool (p).wd, .slice (p).da (p).spds.length (p).dk, .int .i64 (p).sw, .int .i64 (p).rk, .string (p).ow, .bool (p).dm, .bool (p).pn, .bool (p).lc] _ Tryd.underlying37 rfl (by kernel_rfl) (rangeAt_mono (rangeAt_mono HRq.out Hhb.out H2b.out) lb n.below) rfl | refine rel_load rfl b (o + n0 * 20) rfl [.string (p0).nm, .int .i64 (p0).n0, .int .i64 (p0).n1, .int .i64 (p0).n2, .int .i64 (p0).n3, .int .i64 (p0).n4, .slice (p0).la (p0).labs.length (p0).lk, .slice (p0).sa (p0).sels.length (p0).sk, .slice (p0).ta (p0).trms.length (p0).tk, .slice (p0).ba (p0).bers.length (p0).bk, .slice (p0).pa (p0).prts.length (p0).pk, .slice (p0).aa (p0).aprs.length (p0).ak, .bool (p0).wd, .slice (p0).da (p0).spds.length (p0).dk, .int .i64 (p0).sw, .int .i64 (p0).rk, .string (p0).ow, .bool (p0).dm, .bool (p0).pn, .bool (p0).lc] _ Tryd.underlying37 rfl (by kernel_rfl) (rangeAt_mono (rangeAt_mono HR0.out Hhb.out H2b.out) lb n.below) rfl))
                      | (unfold relAt
                         go_simp
                         (first | (refine relUpon_val ?_ (Below.refl _ _); exact rfl) | exact rfl | (refine relUpon_enter ?_; (go_at_call 8; (with_reducible refine (HA1.out _ (HBw.out.trans (n.below.mono hWz))).mono ?_); rintro e w9 ⟨rfl, hb⟩; exact ⟨⟨_, rfl, rfl⟩, hb⟩)))))
                  (simp only [Act.put, List.setIfInBounds_toArray, List.set_cons_zero, List.set_cons_succ])
                  (with_reducible refine HK.out _ _ ?_)
                  clear HK K))
              refine relNil ?_
              intro r9 n9 hx9
              clear hcH
              (try simp only [List.nil_append, List.cons_append, List.mem_cons, List.not_mem_nil, or_false, forall_eq_or_imp, forall_eq, false_implies, implies_true] at hx9)
              obtain ⟨w9, hb9⟩ := n9
              (try dsimp only)
              obtain ⟨hc9, hf9⟩ := bcell hb9
              have hz9 := hb9.size
              (try simp at hz9)
              have HCa := Lib.hid (HC.out.below hb9)
              have HSa := Lib.hid (HS.out.below hb9)
              have HOa := Lib.hid (own_kept HO.out hb9)
              have HBa := Lib.hid (HB.out.trans (hb9.mono (by rw [← HNw.out]; exact H2b.out.size)))
              have hXa : X ≤ w9.heap.size := Nat.le_trans hXs hb9.size
              clear hb9 hc9 hf9 hz9 HC HS HO HB HA1
              obtain ⟨ct, hct⟩ : ∃ c, ((G.take i).flatten ++ g.take k).count (nn : Int) = c := ⟨_, rfl⟩
              have hct60 : ct ≤ 60 := by rw [← hct]; exact Nat.le_trans (cnt_le HG.out HPm.out _) hl60
              have y0 : w9.cell? ⟨N, nn, none⟩ = some (.int .i64 (ct : Nat)) := by rw [← hct]; exact (HCa.out.cell nn).trans (cntV_at _ hnn)
              have f0 := HCa.out.frozen nn
              have yl := HCa.out.lt
              have Hct := Lib.hid hct
              clear hct
              go_upto_region 20 with (fail)
              obtain ⟨wa, hwa⟩ : ∃ V, V = w9.setCell ⟨N, nn, none⟩ (.int .i64 ((ct : Int) + 1)) := ⟨_, rfl⟩
              have hgx : w9.grownBy wa (some N) := by rw [hwa]; exact kgrown_set w9 N nn _
              have HCb := Lib.hid (show Blk wa N 3 (cntV (((G.take i).flatten ++ g.take k) ++ [(nn : Int)]) n) by
                rw [hwa, ← cntV_set _ hnn, Hct.out]; exact HCa.out.set nn _)
              have HSb := Lib.hid (show Blk wa (N + 1) 31 r.l by rw [hwa]; exact HSa.out.other (by show N + 1 ≠ N; omega) _)
              have HOb := Lib.hid (HOa.out.kept hgx (by
                cases hb : (Value.slice ao q ko).ownBlock with
                | none => exact .inl rfl
                | some z => exact .inr fun e => by have h1 := (HOa.out.lt z hb).1; have h2 := Option.some.inj e; omega))
              have HBb := Lib.hid (show Below N w2 wa by rw [hwa]; exact HBa.out.setCell (Nat.le_refl _) _)
              have hXb : X ≤ wa.heap.size := Nat.le_trans hXa hgx.size
              rw [← hwa]
              clear hwa hgx y0 f0 yl HCa HSa HOa HBa hXa Hct
              have h2x := HBb.out
              rw [← HNw.out] at h2x
              have HRx := Lib.hid (rangeAt_mono HRq.out Hhb.out h2x)
              have HPo := Lib.hid (kprow_one p)
              clear h2x
              obtain ⟨i0, hi0, hz0, hz1, hz2⟩ := info_parts Tryd.info37
              have Hi := Lib.hid hi0
              have Hz0 := Lib.hid hz0
              have Hz1 := Lib.hid hz1
              have Hz2 := Lib.hid hz2
              clear hi0 hz0 hz1 hz2
              have hq60 : q ≤ 60 := by omega
              go_upto_region 21 with (first
                | ((with_reducible refine at_load (ty := 37) ?_); refine load_cells rfl 37 (.tmp 97) rfl b (o + nn * 20) rfl [.string (p).nm, .int .i64 (p).n0, .int .i64 (p).n1, .int .i64 (p).n2, .int .i64 (p).n3, .int .i64 (p).n4, .slice (p).la (p).labs.length (p).lk, .slice (p).sa (p).sels.length (p).sk, .slice (p).ta (p).trms.length (p).tk, .slice (p).ba (p).bers.length (p).bk, .slice (p).pa (p).prts.length (p).pk, .slice (p).aa (p).aprs.length (p).ak, .bool (p).wd, .slice (p).da (p).spds.length (p).dk, .int .i64 (p).sw, .int .i64 (p).rk, .string (p).ow, .bool (p).dm, .bool (p).pn, .bool (p).lc] _ Tryd.underlying37 rfl (by kernel_rfl) HRx.out ?_)
                | (at_builtin; refine wpList_append_src rfl (.tmp 94) (.tmp 99) 22 rfl X 37 i0 _ 20 272 Tryd.underlying22 Hi.out Hz0.out Hz1.out Hz2.out rfl (by decide) _ q (Q.flatMap prow) rfl (HOb.out.alloc _) (some ⟨wa.heap.size, 0, none⟩) 1 1 [.string (p).nm, .int .i64 (p).n0, .int .i64 (p).n1, .int .i64 (p).n2, .int .i64 (p).n3, .int .i64 (p).n4, .slice (p).la (p).labs.length (p).lk, .slice (p).sa (p).sels.length (p).sk, .slice (p).ta (p).trms.length (p).tk, .slice (p).ba (p).bers.length (p).bk, .slice (p).pa (p).prts.length (p).pk, .slice (p).aa (p).aprs.length (p).ak, .bool (p).wd, .slice (p).da (p).spds.length (p).dk, .int .i64 (p).sw, .int .i64 (p).rk, .string (p).ow, .bool (p).dm, .bool (p).pn, .bool (p).lc] rfl rfl (fun q e => by injection e with e; rw [← e]; exact news_at _ _ _) (fun e => by cases e) HPo.out (by unfold maxLen; omega) (by omega) (le_alloc hXb _) ?_; intro v6 w6 hown6 hgrow6; obtain ⟨a6, k6, rfl⟩ := own_sl hown6; have hb6 := own_below (HOb.out.alloc _) ((Below.refl X wa).alloc hXb _) (le_alloc hXb _) hgrow6; have HO6 := Lib.hid hown6; have HC6 := Lib.hid (HCb.out.same (hb6.block N (by omega))); have HS6 := Lib.hid (HSb.out.same (hb6.block (N + 1) hNX)); have HB6 := Lib.hid (HBb.out.trans (hb6.mono (by omega))); have hX6 : X ≤ w6.heap.size := Nat.le_trans hXb hb6.size; clear hown6 hgrow6 hb6))
              clear HCb HSb HOb HBb hXb HRx
              have HQ6 := Lib.hid (show Q ++ [p] = pkP l (g.take (k + 1)) by rw [HQ.out, take_at HXk.out, pkP_append, pkP_one HPp.out])
              have HO7 := Lib.hid (show w6.ownsRow X 37 20 (.slice a6 (q + 1) k6) (Q ++ [p]).length ((Q ++ [p]).flatMap prow) by
                rw [List.length_append, Hq.out, List.flatMap_append, show ([p] : List Pd).flatMap prow = [.string (p).nm, .int .i64 (p).n0, .int .i64 (p).n1, .int .i64 (p).n2, .int .i64 (p).n3, .int .i64 (p).n4, .slice (p).la (p).labs.length (p).lk, .slice (p).sa (p).sels.length (p).sk, .slice (p).ta (p).trms.length (p).tk, .slice (p).ba (p).bers.length (p).bk, .slice (p).pa (p).prts.length (p).pk, .slice (p).aa (p).aprs.length (p).ak, .bool (p).wd, .slice (p).da (p).spds.length (p).dk, .int .i64 (p).sw, .int .i64 (p).rk, .string (p).ow, .bool (p).dm, .bool (p).pn, .bool (p).lc] from rfl]
                exact HO6.out)
              have HC7 := Lib.hid (show Blk w6 N 3 (cntV ((G.take i).flatten ++ g.take (k + 1)) n) by rw [take_at HXk.out, ← List.append_assoc]; exact HC6.out)
              have HQl := Lib.hid (show (Q ++ [p]).length ≤ k + 1 by rw [List.length_append, Hq.out]; show q + 1 ≤ k + 1; omega)
              clear HO6 HC6 HQ Hq
              go_wp2
              go_loopw [12] (fun vj wr => ∃ j : Nat, j ≤ i ∧ vj = .int .i64 j ∧ Below w6.heap.size w6 wr) (fun vj _ => i - (intOf vj).toNat)
              case atStart => exact ⟨0, Nat.zero_le _, rfl, Below.refl _ _⟩
              case round =>
                obtain ⟨j, hj, rfl, hB⟩ := hrel
                obtain ⟨W3, hW3⟩ : ∃ V, V = wr := ⟨_, rfl⟩
                subst hW3
                by_cases hji : j < i
                · obtain ⟨f, hf⟩ := mem_at (l := G) (k := j) (by rw [HGm.out]; omega)
                  obtain ⟨e, he, hpe⟩ := HPd.out j f hf
                  obtain ⟨x1, t1, hft⟩ := List.exists_cons_of_ne_nil (HNe.out f (List.mem_of_getElem? hf))
                  obtain ⟨n1, p1, hx1, hn1, hp1, hk1⟩ := hpe 0 x1 (by rw [hft]; rfl)
                  rw [HN.out] at hn1
                  have hjm : j < m := by omega
                  have hB3 := HB6.out.trans (hB.mono (by have := HB6.out.size; rw [HNw.out] at this; exact this))
                  obtain ⟨cf, cof, kf, hbG2, hcf, e0, hfi⟩ := HRowJ.out _ hB3 j f hf (by rw [hft]; simp)
                  have e1 := hfi 0 _ (by rw [hft]; rfl)
                  rw [Nat.add_zero, hx1] at e1
                  obtain ⟨Lf, hLf⟩ : ∃ L, f.length = L := ⟨_, rfl⟩
                  have hLf0 : 0 < Lf := by rw [← hLf, hft]; simp
                  have hLf60 : Lf ≤ 60 := by have := HGle.out f (List.mem_of_getElem? hf); omega
                  rw [hLf] at e0
                  have HR1 := Lib.hid (HC9.out n1 p1 hp1)
                  have HA2 := Lib.hid (fun V (hV : Below w.heap.size w V) => show Calls Tryd.prog 8 #[.agg #[.string (p).nm, .int .i64 (p).n0, .int .i64 (p).n1, .int .i64 (p).n2, .int .i64 (p).n3, .int .i64 (p).n4, .slice (p).la (p).labs.length (p).lk, .slice (p).sa (p).sels.length (p).sk, .slice (p).ta (p).trms.length (p).tk, .slice (p).ba (p).bers.length (p).bk, .slice (p).pa (p).prts.length (p).pk, .slice (p).aa (p).aprs.length (p).ak, .bool (p).wd, .slice (p).da (p).spds.length (p).dk, .int .i64 (p).sw, .int .i64 (p).rk, .string (p).ow, .bool (p).dm, .bool (p).pn, .bool (p).lc], .agg #[.string (p1).nm, .int .i64 (p1).n0, .int .i64 (p1).n1, .int .i64 (p1).n2, .int .i64 (p1).n3, .int .i64 (p1).n4, .slice (p1).la (p1).labs.length (p1).lk, .slice (p1).sa (p1).sels.length (p1).sk, .slice (p1).ta (p1).trms.length (p1).tk, .slice (p1).ba (p1).bers.length (p1).bk, .slice (p1).pa (p1).prts.length (p1).pk, .slice (p1).aa (p1).aprs.length (p1).ak, .bool (p1).wd, .slice (p1).da (p1).spds.length (p1).dk, .int .i64 (p1).sw, .int .i64 (p1).rk, .string (p1).ow, .bool (p1).dm, .bool (p1).pn, .bool (p1).lc]] V fun e w' => e = .returned (.bool false) ∧ Below V.heap.size V w' from (HAl.out p (List.mem_of_getElem? HPp.out) p1 (List.mem_of_getElem? hp1) V hV).mono (fun e w' h => by rw [alike_no (fun hh => HAp.out i j _ _ HDd.out he hji (HKp.out.symm.trans (hh.trans hk1)))] at h; exact h))
                  have hBw3 : Below w.heap.size w W3 := HB2.out.trans (hB3.mono (by rw [← HNw.out]; exact HB2.out.size))
                  have HBw3 := Lib.hid hBw3
                  have h2b3 := hB3
                  rw [← HNw.out] at h2b3
                  have H2b3 := Lib.hid h2b3
                  have hWz3 := hBw3.size
                  have lb3 : b < W3.heap.size := Nat.lt_of_lt_of_le Hhb.out h2b3.size
                  have HB := Lib.hid hB
                  have hBz := hB.size
                  clear hf he hpe hft hx1 hp1 hk1 hB3 hfi hLf hBw3 h2b3 hB
                  go_wp2
                  have hcH := held_cell
                  refine region_rel (by kernel_rfl) (by kernel_rfl) ?_
                  repeat
                    ((with_reducible refine relStep (fun K hK => ?_))
                     (have HK := Lib.hid hK)
                     clear hK
                     (apply relInl
                      · intro r n hf
                        have Hf := Lib.hid hf
                        clear hf
                        (first
                          | (((with_reducible refine at_rel (ty := 37) ?_); first | refine rel_load rfl b (o + nn * 20) rfl [.string (p).nm, .int .i64 (p).n0, .int .i64 (p).n1, .int .i64 (p).n2, .int .i64 (p).n3, .int .i64 (p).n4, .slice (p).la (p).labs.length (p).lk, .slice (p).sa (p).sels.length (p).sk, .slice (p).ta (p).trms.length (p).tk, .slice (p).ba (p).bers.length (p).bk, .slice (p).pa (p).prts.length (p).pk, .slice (p).aa (p).aprs.length (p).ak, .bool (p).wd, .slice (p).da (p).spds.length (p).dk, .int .i64 (p).sw, .int .i64 (p).rk, .string (p).ow, .bool (p).dm, .bool (p).pn, .bool (p).lc] _ Tryd.underlying37 rfl (by kernel_rfl) (rangeAt_mono (rangeAt_mono HRq.out Hhb.out H2b3.out) lb3 n.below) rfl | refine rel_load rfl b (o + n1 * 20) rfl [.string (p1).nm, .int .i64 (p1).n0, .int .i64 (p1).n1, .int .i64 (p1).n2, .int .i64 (p1).n3, .int .i64 (p1).n4, .slice (p1).la (p1).labs.length (p1).lk, .slice (p1).sa (p1).sels.length (p1).sk, .slice (p1).ta (p1).trms.length (p1).tk, .slice (p1).ba (p1).bers.length (p1).bk, .slice (p1).pa (p1).prts.length (p1).pk, .slice (p1).aa (p1).aprs.length (p1).ak, .bool (p1).wd, .slice (p1).da (p1).spds.length (p1).dk, .int .i64 (p1).sw, .int .i64 (p1).rk, .string (p1).ow, .bool (p1).dm, .bool (p1).pn, .bool (p1).lc] _ Tryd.underlying37 rfl (by kernel_rfl) (rangeAt_mono (rangeAt_mono HR1.out Hhb.out H2b3.out) lb3 n.below) rfl))
                          | (unfold relAt
                             go_simp
                             (first | (refine relUpon_val ?_ (Below.refl _ _); exact rfl) | exact rfl | (refine relUpon_enter ?_; (go_at_call 8; (with_reducible refine (HA2.out _ (HBw3.out.trans (n.below.mono hWz3))).mono ?_); rintro e w9 ⟨rfl, hb⟩; exact ⟨⟨_, rfl, rfl⟩, hb⟩)))))
                      (simp only [Act.put, List.setIfInBounds_toArray, List.set_cons_zero, List.set_cons_succ])
                      (with_reducible refine HK.out _ _ ?_)
                      clear HK K))
                  refine relNil ?_
                  intro r8 n8 hx8
                  clear hcH
                  (try simp only [List.nil_append, List.cons_append, List.mem_cons, List.not_mem_nil, or_false, forall_eq_or_imp, forall_eq, false_implies, implies_true] at hx8)
                  obtain ⟨w8, hb8⟩ := n8
                  (try dsimp only)
                  obtain ⟨hc8, hf8⟩ := bcell hb8
                  have hz8 := hb8.size
                  (try simp at hz8)
                  have HB8 := Lib.hid (HB.out.trans (hb8.mono hBz))
                  go_wp2
                  go_roundw
                  case rel => exact ⟨j + 1, by omega, by go_num, HB8.out⟩
                  case measure => simp [intOf] <;> omega
                · obtain rfl : j = i := by omega
                  have HX9 := Lib.hid hB
                  clear hB
                  go_wp2
                  go_roundw
                  case rel => exact ⟨k + 1, Q ++ [p], by omega, by go_num, HQ6.out, HQl.out, own_kept HO7.out HX9.out, HC7.out.below HX9.out, HS6.out.below HX9.out, HB6.out.trans (HX9.out.mono (by have := HB6.out.size; rw [HNw.out] at this; exact this)), Nat.le_trans hX6 HX9.out.size⟩
                  case measure => simp [intOf] <;> omega
            · obtain rfl : k = L := by omega
              have hQg : Q = pkP l g := by rw [HQ.out, List.take_of_length_le (by rw [HL.out]; exact Nat.le_refl _)]
              have hO9 : W.ownsRow X 37 20 (.slice ao q ko) Q.length (Q.flatMap prow) := by rw [Hq.out]; exact HO.out
              obtain ⟨a5, k5, e5, _, hr5⟩ := IsL.of_own kprow_len (by decide) hO9
              rw [Hq.out] at e5
              injection e5 with e5 e6 e7
              subst e5 e7
              have HR5 := Lib.hid (show PodLs W ao Q from hr5)
              have hBw : Below w.heap.size w W := HB2.out.trans (HB.out.mono (by rw [← HNw.out]; exact HB2.out.size))
              have HBw := Lib.hid hBw
              have hTq := HTp.out Q (fun x hx => by rw [hQg] at hx; exact pkP_mem x hx) ao ko W hBw hr5 (by rw [Hq.out]; omega)
              have hst := HSI.out.step (part := Q) (fun p hp => HRt.out p (pkP_mem p hp)) (fun p hp => HRt.out p (by rw [hQg] at hp; exact pkP_mem p hp))
              have hpk : pkP l (G.take i).flatten ++ Q = pkP l (G.take (i + 1)).flatten := by
                rw [take_at HG.out, List.flatten_append, pkP_append, hQg]
                simp
              obtain ⟨T, hTt⟩ : ∃ T, totK Q = T := ⟨_, rfl⟩
              obtain ⟨⟨te, t0, t1, t2, t3, t4⟩, rfl⟩ : ∃ T', T' = T := ⟨_, rfl⟩
              rw [Hq.out, hTt] at hTq
              rw [hTt, hpk] at hst
              obtain ⟨r0, r1, r2, r3, r4⟩ := r
              have HCn := Lib.hid (show Blk W N 3 (cntV (G.take (i + 1)).flatten n) by
                have h9 := HC.out
                rw [List.take_of_length_le (l := g) (by rw [HL.out]; exact Nat.le_refl _)] at h9
                rw [take_at HG.out, List.flatten_append]
                simpa using h9)
              have HTq := Lib.hid hTq
              have HSt := Lib.hid hst
              clear hQg hO9 hr5 hBw hTq hst hpk hTt HC HQ Hq HO e6
              go_upto_region 27 with (first
                | (go_at_call 9; (with_reducible refine HTq.out.mono ?_); rintro e w5 ⟨rfl, hb⟩; have HC5 := Lib.hid (HCn.out.below hb); have HS5 := Lib.hid (HS.out.below hb); have HB5 := Lib.hid (HB.out.trans (hb.mono (by have := HB.out.size; rw [HNw.out] at this; exact this))); clear hb)
                | ((with_reducible refine at_store (ty := 31) ?_); refine store_new rfl 31 (.tmp 13) (.tmp 123) rfl _ _ rfl rfl (by kernel_rfl) rfl (by rfl) rfl ?_))
              obtain ⟨x6, hx⟩ : ∃ x, w5.heap.size = x := ⟨_, rfl⟩
              obtain ⟨w6, hw⟩ : ∃ V, V = w5.alloc (.cells #[.int .i64 t0, .int .i64 t1, .int .i64 t2, .int .i64 t3, .int .i64 t4] 31) := ⟨_, rfl⟩
              have HY6 := Lib.hid (show Blk w6 x6 31 [.int .i64 t0, .int .i64 t1, .int .i64 t2, .int .i64 t3, .int .i64 t4] by rw [hw, ← hx]; exact Blk.new w5 31 _)
              have HC6 := Lib.hid (show Blk w6 N 3 (cntV (G.take (i + 1)).flatten n) by rw [hw]; exact HC5.out.alloc _)
              have HS6 := Lib.hid (show Blk w6 (N + 1) 31 [.int .i64 r0, .int .i64 r1, .int .i64 r2, .int .i64 r3, .int .i64 r4] by rw [hw]; exact HS5.out.alloc _)
              have HB6 := Lib.hid (show Below N w2 w6 by rw [hw]; exact HB5.out.alloc (by have := HB5.out.size; rw [HNw.out] at this; exact this) _)
              rw [hx, ← hw]
              clear hx hw HC5 HS5 HB5
              have hs6 := HS6.out.lt
              go_upto_region 28 with (first
                | ((with_reducible refine at_load (ty := 31) ?_); first | refine load_cells rfl 31 (.tmp 6) rfl (N + 1) 0 rfl [.int .i64 r0, .int .i64 r1, .int .i64 r2, .int .i64 r3, .int .i64 r4] _ Tryd.underlying31 rfl (by kernel_rfl) (blk_range HS6.out) ?_ | refine load_cells rfl 31 (.tmp 13) rfl x6 0 rfl [.int .i64 t0, .int .i64 t1, .int .i64 t2, .int .i64 t3, .int .i64 t4] _ Tryd.underlying31 rfl (by kernel_rfl) (blk_range HY6.out) ?_)
                | (go_at_call 10; (with_reducible refine (Rs.refadd_any r0 r1 r2 r3 r4 t0 t1 t2 t3 t4 _).mono ?_); rintro e w7 ⟨rfl, hb⟩; have HC7 := Lib.hid (HC6.out.below hb); have HS7 := Lib.hid (HS6.out.below hb); have HB7 := Lib.hid (HB6.out.trans (hb.mono (by have := HB6.out.size; rw [HNw.out] at this; exact this))); clear hb)
                | ((with_reducible refine at_store (ty := 31) ?_); refine store_new rfl 31 (.tmp 15) (.tmp 129) rfl _ _ rfl rfl (by kernel_rfl) rfl (by rfl) rfl ?_))
              obtain ⟨E, hEE⟩ : ∃ E, Rs.addE r0 r1 r2 r3 r4 t0 t1 t2 t3 t4 = E := ⟨_, rfl⟩
              have hst := HSt.out
              unfold addR addRE at hst
              dsimp only at hst
              simp only [hEE] at hst ⊢
              generalize Rs.sel E (r0 + t0) = s0 at hst ⊢
              generalize Rs.sel E (r1 + t1) = s1 at hst ⊢
              generalize Rs.sel E (r2 + t2) = s2 at hst ⊢
              generalize Rs.sel E (r3 + t3) = s3 at hst ⊢
              generalize Rs.sel E (r4 + t4) = s4 at hst ⊢
              clear hEE HSt hs6 HC6 HS6 HB6 HY6
              obtain ⟨x8, hx⟩ : ∃ x, w7.heap.size = x := ⟨_, rfl⟩
              obtain ⟨w8, hw⟩ : ∃ V, V = w7.alloc (.cells #[.int .i64 s0, .int .i64 s1, .int .i64 s2, .int .i64 s3, .int .i64 s4] 31) := ⟨_, rfl⟩
              have HY8 := Lib.hid (show Blk w8 x8 31 [.int .i64 s0, .int .i64 s1, .int .i64 s2, .int .i64 s3, .int .i64 s4] by rw [hw, ← hx]; exact Blk.new w7 31 _)
              have HC8 := Lib.hid (show Blk w8 N 3 (cntV (G.take (i + 1)).flatten n) by rw [hw]; exact HC7.out.alloc _)
              have HS8 := Lib.hid (show Blk w8 (N + 1) 31 [.int .i64 r0, .int .i64 r1, .int .i64 r2, .int .i64 r3, .int .i64 r4] by rw [hw]; exact HS7.out.alloc _)
              have HB8 := Lib.hid (show Below N w2 w8 by rw [hw]; exact HB7.out.alloc (by have := HB7.out.size; rw [HNw.out] at this; exact this) _)
              rw [hx, ← hw]
              clear hx hw HC7 HS7 HB7
              have y0 := HS8.out.cell 0
              have f0 := HS8.out.frozen 0
              have y1 := HS8.out.cell 1
              have f1 := HS8.out.frozen 1
              have y2 := HS8.out.cell 2
              have f2 := HS8.out.frozen 2
              have y3 := HS8.out.cell 3
              have f3 := HS8.out.frozen 3
              have y4 := HS8.out.cell 4
              have f4 := HS8.out.frozen 4
              have hyl := HS8.out.lt
              dsimp only [R5.l, List.getElem?_cons_zero, List.getElem?_cons_succ] at y0 y1 y2 y3 y4
              cases ov with
              | true =>
                have HSn := Lib.hid (show SI true ⟨s0, s1, s2, s3, s4⟩ (pkP l (G.take (i + 1)).flatten) from hst)
                clear hst
                go_wp2_with ((with_reducible refine at_load (ty := 31) ?_); refine load_cells rfl 31 (.tmp 15) rfl x8 0 rfl [.int .i64 s0, .int .i64 s1, .int .i64 s2, .int .i64 s3, .int .i64 s4] _ Tryd.underlying31 rfl (by kernel_rfl) (blk_range HY8.out) ?_)
                go_roundw
                case rel => exact ⟨i + 1, true, ⟨s0, s1, s2, s3, s4⟩, by omega, (by first | rfl | (show Value.bool (!(E == 0)) = _; rw [q2]; rfl)), by go_num, HSn.out, ((((HC8.out.other (by show N ≠ N + 1; omega) _).other (by show N ≠ N + 1; omega) _).other (by show N ≠ N + 1; omega) _).other (by show N ≠ N + 1; omega) _).other (by show N ≠ N + 1; omega) _, (((((HS8.out.set 0 _).set 1 _).set 2 _).set 3 _).set 4 _), (((((HB8.out.setCell (Nat.le_succ _) _).setCell (Nat.le_succ _) _).setCell (Nat.le_succ _) _).setCell (Nat.le_succ _) _).setCell (Nat.le_succ _) _)⟩
                case measure => simp [intOf] <;> omega
              | false =>
                by_cases hte : te = 0
                · subst hte
                  by_cases hE0 : E = 0
                  · subst hE0
                    have HSn := Lib.hid (show SI false ⟨s0, s1, s2, s3, s4⟩ (pkP l (G.take (i + 1)).flatten) from hst)
                    clear hst
                    go_wp2_with ((with_reducible refine at_load (ty := 31) ?_); refine load_cells rfl 31 (.tmp 15) rfl x8 0 rfl [.int .i64 s0, .int .i64 s1, .int .i64 s2, .int .i64 s3, .int .i64 s4] _ Tryd.underlying31 rfl (by kernel_rfl) (blk_range HY8.out) ?_)
                    go_roundw
                    case rel => exact ⟨i + 1, false, ⟨s0, s1, s2, s3, s4⟩, by omega, (by first | rfl | (show Value.bool (!(E == 0)) = _; rw [q2]; rfl)), by go_num, HSn.out, ((((HC8.out.other (by show N ≠ N + 1; omega) _).other (by show N ≠ N + 1; omega) _).other (by show N ≠ N + 1; omega) _).other (by show N ≠ N + 1; omega) _).other (by show N ≠ N + 1; omega) _, (((((HS8.out.set 0 _).set 1 _).set 2 _).set 3 _).set 4 _), (((((HB8.out.setCell (Nat.le_succ _) _).setCell (Nat.le_succ _) _).setCell (Nat.le_succ _) _).setCell (Nat.le_succ _) _).setCell (Nat.le_succ _) _)⟩
                    case measure => simp [intOf] <;> omega
                  · have HSn := Lib.hid (show SI true ⟨s0, s1, s2, s3, s4⟩ (pkP l (G.take (i + 1)).flatten) by rw [decide_eq_true hE0] at hst; exact hst)
                    have q2 : (E == 0) = false := by simpa using hE0
                    clear hst
                    go_wp2_with ((with_reducible refine at_load (ty := 31) ?_); refine load_cells rfl 31 (.tmp 15) rfl x8 0 rfl [.int .i64 s0, .int .i64 s1, .int .i64 s2, .int .i64 s3, .int .i64 s4] _ Tryd.underlying31 rfl (by kernel_rfl) (blk_range HY8.out) ?_)
                    go_roundw
                    case rel => exact ⟨i + 1, true, ⟨s0, s1, s2, s3, s4⟩, by omega, (by first | rfl | (show Value.bool (!(E == 0)) = _; rw [q2]; rfl)), by go_num, HSn.out, ((((HC8.out.other (by show N ≠ N + 1; omega) _).other (by show N ≠ N + 1; omega) _).other (by show N ≠ N + 1; omega) _).other (by show N ≠ N + 1; omega) _).other (by show N ≠ N + 1; omega) _, (((((HS8.out.set 0 _).set 1 _).set 2 _).set 3 _).set 4 _), (((((HB8.out.setCell (Nat.le_succ _) _).setCell (Nat.le_succ _) _).setCell (Nat.le_succ _) _).setCell (Nat.le_succ _) _).setCell (Nat.le_succ _) _)⟩
                    case measure => simp [intOf] <;> omega
                · have HSn := Lib.hid (show SI true ⟨s0, s1, s2, s3, s4⟩ (pkP l (G.take (i + 1)).flatten) by rw [decide_eq_true hte] at hst; exact hst)
                  have q2 : (te == 0) = false := by simpa using hte
                  clear hst
                  go_wp2_with ((with_reducible refine at_load (ty := 31) ?_); refine load_cells rfl 31 (.tmp 15) rfl x8 0 rfl [.int .i64 s0, .int .i64 s1, .int .i64 s2, .int .i64 s3, .int .i64 s4] _ Tryd.underlying31 rfl (by kernel_rfl) (blk_range HY8.out) ?_)
                  go_roundw
                  case rel => exact ⟨i + 1, true, ⟨s0, s1, s2, s3, s4⟩, by omega, (by first | rfl | (show Value.bool (!(E == 0)) = _; rw [q2]; rfl)), by go_num, HSn.out, ((((HC8.out.other (by show N ≠ N + 1; omega) _).other (by show N ≠ N + 1; omega) _).other (by show N ≠ N + 1; omega) _).other (by show N ≠ N + 1; omega) _).other (by show N ≠ N + 1; omega) _, (((((HS8.out.set 0 _).set 1 _).set 2 _).set 3 _).set 4 _), (((((HB8.out.setCell (Nat.le_succ _) _).setCell (Nat.le_succ _) _).setCell (Nat.le_succ _) _).setCell (Nat.le_succ _) _).setCell (Nat.le_succ _) _)⟩
                  case measure => simp [intOf] <;> omega
        · obtain rfl : i = m := by omega
          have htk : G.take i = G := List.take_of_length_le (by rw [HGm.out]; exact Nat.le_refl _)
          have hC9 := HC.out
          have hI9 := HSI.out
          rw [htk] at hC9 hI9
          have hto := hI9.end HPk.out HRt.out
          have HC9 := Lib.hid hC9
          have HCo := Lib.hid (fun (j : Nat) (hj : j < n) => (HPm.out.count_eq (j : Int)).trans (count_range n j hj))
          clear htk hC9 hI9
          have hBz : N ≤ V.heap.size := by have := HB.out.size; rw [HNw.out] at this; exact this
          have HBz := Lib.hid hBz
          go_wp2
          go_loopw [17] (fun vj wr => ∃ j : Nat, j ≤ n ∧ vj = .int .i64 j ∧ Below V.heap.size V wr) (fun vj _ => n - (intOf vj).toNat)
          case atStart => exact ⟨0, Nat.zero_le _, rfl, Below.refl _ _⟩
          case round =>
            obtain ⟨j, hj, rfl, hB⟩ := hrel
            have HBr := Lib.hid hB
            by_cases hjn : j < n
            · have c0 : wr.cell? ⟨N, j, none⟩ = some (.int .i64 1) := ((HC9.out.below hB).cell j).trans ((cntV_at _ hjn).trans (by rw [HCo.out j hjn]; rfl))
              have cl := (HC9.out.below hB).lt
              clear hB
              go_wp2
              go_roundw
              case rel => exact ⟨j + 1, by omega, by go_num, HBr.out⟩
              case measure => simp [intOf] <;> omega
            · obtain rfl : j = n := by omega
              have HBw := Lib.hid (HB2.out.trans ((HB.out.trans (hB.mono hBz)).mono (by rw [← HNw.out]; exact HB2.out.size)))
              have HS9 := Lib.hid (HS.out.below hB)
              obtain ⟨r0, r1, r2, r3, r4⟩ := r
              have hTl := HTl.out wr HBw.out
              rw [hto] at hTl
              clear hB hto HS HC9 hBz
              cases ov with
              | true =>
                rw [if_pos rfl] at hTl
                have HTq := Lib.hid (show Calls Tryd.prog 9 #[.slice a j ka] wr fun e w' => e = .returned (.tuple #[.agg #[.int .i64 0, .int .i64 0, .int .i64 0, .int .i64 0, .int .i64 0], .int .i64 10]) ∧ Below wr.heap.size wr w' from hTl)
                clear hTl
                go_upto_region 36 with (first
                  | (go_at_call 9; (with_reducible refine HTq.out.mono ?_); rintro e w5 ⟨rfl, hb⟩; have HS5 := Lib.hid (HS9.out.below hb); have HB5 := Lib.hid (HBw.out.trans (hb.mono HBw.out.size)); clear hb)
                  | ((with_reducible refine at_store (ty := 31) ?_); refine store_new rfl 31 (.tmp 18) (.tmp 155) rfl _ _ rfl rfl (by kernel_rfl) rfl (by rfl) rfl ?_))
                obtain ⟨x6, hx⟩ : ∃ x, w5.heap.size = x := ⟨_, rfl⟩
                obtain ⟨w6, hw⟩ : ∃ V, V = w5.alloc (.cells #[.int .i64 0, .int .i64 0, .int .i64 0, .int .i64 0, .int .i64 0] 31) := ⟨_, rfl⟩
                have HY6 := Lib.hid (show Blk w6 x6 31 [.int .i64 0, .int .i64 0, .int .i64 0, .int .i64 0, .int .i64 0] by rw [hw, ← hx]; exact Blk.new w5 31 _)
                have HS6 := Lib.hid (show Blk w6 (N + 1) 31 [.int .i64 r0, .int .i64 r1, .int .i64 r2, .int .i64 r3, .int .i64 r4] by rw [hw]; exact HS5.out.alloc _)
                have HB6 := Lib.hid (show Below w.heap.size w w6 by rw [hw]; exact HB5.out.alloc HB5.out.size _)
                rw [hx, ← hw]
                clear hx hw HS5 HB5
                go_wp2_with (first
                  | ((with_reducible refine at_load (ty := 31) ?_); first | refine load_cells rfl 31 (.tmp 6) rfl (N + 1) 0 rfl [.int .i64 r0, .int .i64 r1, .int .i64 r2, .int .i64 r3, .int .i64 r4] _ Tryd.underlying31 rfl (by kernel_rfl) (blk_range HS6.out) ?_ | refine load_cells rfl 31 (.tmp 18) rfl x6 0 rfl [.int .i64 0, .int .i64 0, .int .i64 0, .int .i64 0, .int .i64 0] _ Tryd.underlying31 rfl (by kernel_rfl) (blk_range HY6.out) ?_)
                  | (go_at_call 6; (with_reducible refine (HKn.out _ HB6.out).mono ?_); rintro e w9 ⟨rfl, hb⟩; have HB9 := Lib.hid (HB6.out.trans (hb.mono HB6.out.size)); clear hb))
                go_ret
                exact ⟨rfl, HB9.out⟩
              | false =>
                rw [if_neg Bool.false_ne_true] at hTl
                have HTq := Lib.hid (show Calls Tryd.prog 9 #[.slice a j ka] wr fun e w' => e = .returned (.tuple #[.agg #[.int .i64 r0, .int .i64 r1, .int .i64 r2, .int .i64 r3, .int .i64 r4], .int .i64 0]) ∧ Below wr.heap.size wr w' from hTl)
                clear hTl
                go_upto_region 36 with (first
                  | (go_at_call 9; (with_reducible refine HTq.out.mono ?_); rintro e w5 ⟨rfl, hb⟩; have HS5 := Lib.hid (HS9.out.below hb); have HB5 := Lib.hid (HBw.out.trans (hb.mono HBw.out.size)); clear hb)
                  | ((with_reducible refine at_store (ty := 31) ?_); refine store_new rfl 31 (.tmp 18) (.tmp 155) rfl _ _ rfl rfl (by kernel_rfl) rfl (by rfl) rfl ?_))
                obtain ⟨x6, hx⟩ : ∃ x, w5.heap.size = x := ⟨_, rfl⟩
                obtain ⟨w6, hw⟩ : ∃ V, V = w5.alloc (.cells #[.int .i64 r0, .int .i64 r1, .int .i64 r2, .int .i64 r3, .int .i64 r4] 31) := ⟨_, rfl⟩
                have HY6 := Lib.hid (show Blk w6 x6 31 [.int .i64 r0, .int .i64 r1, .int .i64 r2, .int .i64 r3, .int .i64 r4] by rw [hw, ← hx]; exact Blk.new w5 31 _)
                have HS6 := Lib.hid (show Blk w6 (N + 1) 31 [.int .i64 r0, .int .i64 r1, .int .i64 r2, .int .i64 r3, .int .i64 r4] by rw [hw]; exact HS5.out.alloc _)
                have HB6 := Lib.hid (show Below w.heap.size w w6 by rw [hw]; exact HB5.out.alloc HB5.out.size _)
                rw [hx, ← hw]
                clear hx hw HS5 HB5
                go_wp2_with (first
                  | ((with_reducible refine at_load (ty := 31) ?_); first | refine load_cells rfl 31 (.tmp 6) rfl (N + 1) 0 rfl [.int .i64 r0, .int .i64 r1, .int .i64 r2, .int .i64 r3, .int .i64 r4] _ Tryd.underlying31 rfl (by kernel_rfl) (blk_range HS6.out) ?_ | refine load_cells rfl 31 (.tmp 18) rfl x6 0 rfl [.int .i64 r0, .int .i64 r1, .int .i64 r2, .int .i64 r3, .int .i64 r4] _ Tryd.underlying31 rfl (by kernel_rfl) (blk_range HY6.out) ?_)
                  | (go_at_call 6; (with_reducible refine (HKn.out _ HB6.out).mono ?_); rintro e w9 ⟨rfl, hb⟩; have HB9 := Lib.hid (HB6.out.trans (hb.mono HB6.out.size)); clear hb))
                go_ret
                exact ⟨rfl, HB9.out⟩
    · have hG0 : G = [] := by rw [← hG]; exact grpK_bad (by rw [her]; exact he0)
      subst hG0
      have hm0 : m = 0 := by rw [← hm2]; rfl
      subst hm0
      rw [hG, her] at HG1
      rw [hn] at HG1 HLi ⊢
      have q1 : (er == 0) = false := by simpa using he0
      clear hF hI hL hWT hT hm hl hn hG her hm2 HTl HTp HAl
      go_enter Tryd.func3, Tryd.ntmps3
      go_wp2_with (first
        | (go_at_call 5; (with_reducible refine HLi.out.mono ?_); rintro e w1 ⟨rfl, hb⟩; have HB1 := Lib.hid hb; clear hb)
        | (go_at_call 7; (with_reducible refine (HG1.out _ HB1.out).mono ?_); rintro e w2 ⟨⟨a2, c2, rfl, -⟩, hb⟩; have HB2 := Lib.hid (HB1.out.trans (hb.mono HB1.out.size)); clear hb; (try dsimp only [List.length_nil]))
        | (go_at_call 6; (with_reducible refine (HKn.out _ HB2.out).mono ?_); rintro e w3 ⟨rfl, hb⟩; have HB3 := Lib.hid (HB2.out.trans (hb.mono HB2.out.size)); clear hb))
      go_ret
      exact ⟨rfl, HB3.out⟩
end Go.Proofs.YtccplljbljpjpaaDoor
