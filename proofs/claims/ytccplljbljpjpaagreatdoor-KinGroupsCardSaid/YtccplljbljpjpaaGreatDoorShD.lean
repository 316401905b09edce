/-
  A pod as text, the document's way: triremeref07.ShowPod.
-/
import Derived.Test.YtccplljbljpjpaaGreatDoorShC
namespace Go.Proofs.YtccplljbljpjpaaGreatDoor
open Go.RowKit
set_option linter.unusedVariables false
set_option linter.unusedSimpArgs false

theorem fold_size {α : Type} (f : ByteArray → α → ByteArray) (c : Nat) : ∀ (l : List α) (s : ByteArray), (∀ s, ∀ x ∈ l, (f s x).size ≤ s.size + c) → (l.foldl f s).size ≤ s.size + l.length * c
  | [], s, _ => by simp
  | x :: l, s, h => by
    have h1 := h s x List.mem_cons_self
    have ih := fold_size f c l (f s x) fun s y hy => h s y (List.mem_cons_of_mem _ hy)
    rw [List.foldl_cons, List.length_cons, Nat.succ_mul]
    omega
theorem prB_size {nm : ByteArray} {l : List Lab} (hl : l.length ≤ 40) (h : nm.size ≤ 100) (hs : ∀ x ∈ l, x.key.size ≤ 300 ∧ x.val.size ≤ 300) : (prB nm l).size ≤ 40000 := by
  have h9 := fold_size (prS nm) 1000 l emp fun s x hx => by
    have h1 := hs x hx
    have h2 := atB_size h1.2
    unfold prS
    simp only [ByteArray.size_append]
    have a1 : (⟨#[32, 40]⟩ : ByteArray).size ≤ 2 := by decide
    have a2 : (⟨#[32]⟩ : ByteArray).size ≤ 1 := by decide
    have a3 : (⟨#[41]⟩ : ByteArray).size ≤ 1 := by decide
    omega
  have h0 : (emp : ByteArray).size = 0 := by decide
  unfold prB
  omega
set_option maxRecDepth 100000 in
set_option maxHeartbeats 16000000 in
theorem showpod_any (p : Pd) (w : World) (hA : PodAt w p) (hL : lightP p = true) :
    Calls Tryz.prog 23 #[.agg (prow p).toArray] w fun e w' => e = .returned (.string (showP p)) ∧ Below w.heap.size w w' := by
  have HRt := Lib.hid (fun V (hV : Below w.heap.size w V) => show Calls Tryz.prog 20 #[.agg #[.string (p).nm, .int .i64 (p).n0, .int .i64 (p).n1, .int .i64 (p).n2, .int .i64 (p).n3, .int .i64 (p).n4, .slice (p).la (p).labs.length (p).lk, .slice (p).sa (p).sels.length (p).sk, .slice (p).ta (p).trms.length (p).tk, .slice (p).ba (p).bers.length (p).bk, .slice (p).pa (p).prts.length (p).pk, .slice (p).aa (p).aprs.length (p).ak, .bool (p).wd, .slice (p).da (p).spds.length (p).dk, .int .i64 (p).sw, .int .i64 (p).rk, .string (p).ow, .bool (p).dm, .bool (p).pn, .bool (p).lc]] V fun e w' => e = .returned (.bool (rightP p)) ∧ Below V.heap.size V w' from refrightp_any p V (hA.mono hV) hL)
  obtain ⟨W, hW⟩ : ∃ W, W = w.alloc (.cells #[.string (p).nm, .int .i64 (p).n0, .int .i64 (p).n1, .int .i64 (p).n2, .int .i64 (p).n3, .int .i64 (p).n4, .slice (p).la (p).labs.length (p).lk, .slice (p).sa (p).sels.length (p).sk, .slice (p).ta (p).trms.length (p).tk, .slice (p).ba (p).bers.length (p).bk, .slice (p).pa (p).prts.length (p).pk, .slice (p).aa (p).aprs.length (p).ak, .bool (p).wd, .slice (p).da (p).spds.length (p).dk, .int .i64 (p).sw, .int .i64 (p).rk, .string (p).ow, .bool (p).dm, .bool (p).pn, .bool (p).lc] 38) := ⟨_, rfl⟩
  have HX := Lib.hid (show Box w.heap.size (prow p) W by rw [hW]; exact Box.new w (prow p) 38)
  have HB := Lib.hid (show Below w.heap.size w W by rw [hW]; exact (Below.refl _ _).alloc (Nat.le_refl _) _)
  have HRx := Lib.hid (show W.rangeAt w.heap.size 0 [.string (p).nm, .int .i64 (p).n0, .int .i64 (p).n1, .int .i64 (p).n2, .int .i64 (p).n3, .int .i64 (p).n4, .slice (p).la (p).labs.length (p).lk, .slice (p).sa (p).sels.length (p).sk, .slice (p).ta (p).trms.length (p).tk, .slice (p).ba (p).bers.length (p).bk, .slice (p).pa (p).prts.length (p).pk, .slice (p).aa (p).aprs.length (p).ak, .bool (p).wd, .slice (p).da (p).spds.length (p).dk, .int .i64 (p).sw, .int .i64 (p).rk, .string (p).ow, .bool (p).dm, .bool (p).pn, .bool (p).lc] from HX.out.range)
  have hlx := HX.out.lt
  show Calls Tryz.prog 23 #[.agg #[.string (p).nm, .int .i64 (p).n0, .int .i64 (p).n1, .int .i64 (p).n2, .int .i64 (p).n3, .int .i64 (p).n4, .slice (p).la (p).labs.length (p).lk, .slice (p).sa (p).sels.length (p).sk, .slice (p).ta (p).trms.length (p).tk, .slice (p).ba (p).bers.length (p).bk, .slice (p).pa (p).prts.length (p).pk, .slice (p).aa (p).aprs.length (p).ak, .bool (p).wd, .slice (p).da (p).spds.length (p).dk, .int .i64 (p).sw, .int .i64 (p).rk, .string (p).ow, .bool (p).dm, .bool (p).pn, .bool (p).lc]] w _
  cases hr : rightP p with
  | false =>
    rw [show showP p = emp from if_neg (by rw [hr]; exact Bool.false_ne_true)]
    rw [hr] at HRt
    clear hA hL hr
    go_enter Tryz.func23, Tryz.ntmps23
    go_upto_region 1 with (fail)
    rw [← hW]
    clear hW
    go_wp2_with (first
      | ((with_reducible refine at_load (ty := 38) ?_); refine load_cells rfl 38 (.tmp 1) rfl w.heap.size 0 rfl [.string (p).nm, .int .i64 (p).n0, .int .i64 (p).n1, .int .i64 (p).n2, .int .i64 (p).n3, .int .i64 (p).n4, .slice (p).la (p).labs.length (p).lk, .slice (p).sa (p).sels.length (p).sk, .slice (p).ta (p).trms.length (p).tk, .slice (p).ba (p).bers.length (p).bk, .slice (p).pa (p).prts.length (p).pk, .slice (p).aa (p).aprs.length (p).ak, .bool (p).wd, .slice (p).da (p).spds.length (p).dk, .int .i64 (p).sw, .int .i64 (p).rk, .string (p).ow, .bool (p).dm, .bool (p).pn, .bool (p).lc] _ Tryz.underlying38 rfl (by kernel_rfl) HRx.out ?_)
      | (go_at_call 20; (with_reducible refine (HRt.out _ HB.out).mono ?_); rintro e w1 ⟨rfl, hb⟩; have HB1 := Lib.hid (HB.out.trans (hb.mono HB.out.size)); clear hb))
    go_ret
    exact ⟨rfl, HB1.out⟩
  | true =>
    have hLt := lightP_iff hL
    have hRp := rtp_of hr
    rw [hr] at HRt
    have HR := Lib.hid (show showP p = f1B p from if_pos hr)
    have HAp := Lib.hid (fun V (hV : Below w.heap.size w V) => hA.mono hV)
    have HRp := Lib.hid hRp
    have HLt := Lib.hid hLt
    clear hA hL hr
    go_enter Tryz.func23, Tryz.ntmps23
    go_upto_region 1 with (fail)
    rw [← hW]
    clear hW
    go_upto_region 3 with (first
      | ((with_reducible refine at_load (ty := 38) ?_); refine load_cells rfl 38 (.tmp 1) rfl w.heap.size 0 rfl [.string (p).nm, .int .i64 (p).n0, .int .i64 (p).n1, .int .i64 (p).n2, .int .i64 (p).n3, .int .i64 (p).n4, .slice (p).la (p).labs.length (p).lk, .slice (p).sa (p).sels.length (p).sk, .slice (p).ta (p).trms.length (p).tk, .slice (p).ba (p).bers.length (p).bk, .slice (p).pa (p).prts.length (p).pk, .slice (p).aa (p).aprs.length (p).ak, .bool (p).wd, .slice (p).da (p).spds.length (p).dk, .int .i64 (p).sw, .int .i64 (p).rk, .string (p).ow, .bool (p).dm, .bool (p).pn, .bool (p).lc] _ Tryz.underlying38 rfl (by kernel_rfl) HRx.out ?_)
      | (go_at_call 20; (with_reducible refine (HRt.out _ HB.out).mono ?_); rintro e w1 ⟨rfl, hb⟩; have HB1 := Lib.hid (HB.out.trans (hb.mono HB.out.size)); have HX1 := Lib.hid (HX.out.mono hb); clear hb))
    clear hlx HX HRx HB HRt
    -- the head
    have hlx := HX1.out.lt
    have c0 : w1.cell? ⟨w.heap.size, 0, none⟩ = some (.string p.nm) := HX1.out.cell 0
    have c1 : w1.cell? ⟨w.heap.size, 1, none⟩ = some (.int .i64 p.n0) := HX1.out.cell 1
    have c2 : w1.cell? ⟨w.heap.size, 2, none⟩ = some (.int .i64 p.n1) := HX1.out.cell 2
    have c3 : w1.cell? ⟨w.heap.size, 3, none⟩ = some (.int .i64 p.n2) := HX1.out.cell 3
    have c5 : w1.cell? ⟨w.heap.size, 5, none⟩ = some (.int .i64 p.n4) := HX1.out.cell 5
    have HS0 := Lib.hid (fun V => refshowmilli_any p.n0 V)
    have HS1 := Lib.hid (fun V => refshow_any p.n1 V)
    have HS2 := Lib.hid (fun V => refshow_any p.n2 V)
    have HS4 := Lib.hid (fun V => digits_itoa p.n4 hRp.n4.1 hRp.n4.2 V)
    have zx0 := showM_size p.n0
    have zx1 := showV_size p.n1
    have zx2 := showV_size p.n2
    have zx4 := itoaB_size p.n4 (by have := hRp.n4; omega) hRp.n4.2
    have hv : hdB p = _ := rfl
    unfold hdB at hv
    obtain ⟨x0, hx0⟩ : ∃ t, showM p.n0 = t := ⟨_, rfl⟩
    obtain ⟨x1, hx1⟩ : ∃ t, showV p.n1 = t := ⟨_, rfl⟩
    obtain ⟨x2, hx2⟩ : ∃ t, showV p.n2 = t := ⟨_, rfl⟩
    obtain ⟨x4, hx4⟩ : ∃ t, itoaB p.n4 = t := ⟨_, rfl⟩
    have hv : hdB p = ((((((((((⟨#[40, 112, 111, 100, 32]⟩ ++ p.nm) ++ ⟨#[32, 40, 110, 101, 101, 100, 32]⟩) ++ x0) ++ ⟨#[32]⟩) ++ x1) ++ ⟨#[32]⟩) ++ x2) ++ ⟨#[32]⟩) ++ x4) ++ ⟨#[41]⟩) := by
      unfold hdB
      rw [hx0, hx1, hx2, hx4]
    rw [hx0] at HS0 zx0
    rw [hx1] at HS1 zx1
    rw [hx2] at HS2 zx2
    rw [hx4] at HS4 zx4
    obtain ⟨s1, es1, zs1, rs1⟩ := cat_step ⟨#[40, 112, 111, 100, 32]⟩ p.nm 10 300 (by decide) hLt.nm (by omega)
    obtain ⟨s2, es2, zs2, rs2⟩ := cat_step s1 ⟨#[32, 40, 110, 101, 101, 100, 32]⟩ (10 + 300) 10 zs1 (by decide) (by omega)
    obtain ⟨s3, es3, zs3, rs3⟩ := cat_step s2 x0 (10 + 300 + 10) 30 zs2 zx0 (by omega)
    obtain ⟨s4, es4, zs4, rs4⟩ := cat_step s3 ⟨#[32]⟩ (10 + 300 + 10 + 30) 1 zs3 (by decide) (by omega)
    obtain ⟨s5, es5, zs5, rs5⟩ := cat_step s4 x1 (10 + 300 + 10 + 30 + 1) 30 zs4 zx1 (by omega)
    obtain ⟨s6, es6, zs6, rs6⟩ := cat_step s5 ⟨#[32]⟩ (10 + 300 + 10 + 30 + 1 + 30) 1 zs5 (by decide) (by omega)
    obtain ⟨s7, es7, zs7, rs7⟩ := cat_step s6 x2 (10 + 300 + 10 + 30 + 1 + 30 + 1) 30 zs6 zx2 (by omega)
    obtain ⟨s8, es8, zs8, rs8⟩ := cat_step s7 ⟨#[32]⟩ (10 + 300 + 10 + 30 + 1 + 30 + 1 + 30) 1 zs7 (by decide) (by omega)
    obtain ⟨s9, es9, zs9, rs9⟩ := cat_step s8 x4 (10 + 300 + 10 + 30 + 1 + 30 + 1 + 30 + 1) 21 zs8 zx4 (by omega)
    obtain ⟨sa, esa, zsa, rsa⟩ := cat_step s9 ⟨#[41]⟩ (10 + 300 + 10 + 30 + 1 + 30 + 1 + 30 + 1 + 21) 1 zs9 (by decide) (by omega)
    rw [← es1, ← es2, ← es3, ← es4, ← es5, ← es6, ← es7, ← es8, ← es9, ← esa] at hv
    have HV := Lib.hid hv
    have hza : sa.size ≤ 1000 := by omega
    clear hv es1 es2 es3 es4 es5 es6 es7 es8 es9 esa zs1 zs2 zs3 zs4 zs5 zs6 zs7 zs8 zs9 zsa hx0 hx1 hx2 hx4 zx0 zx1 zx2 zx4 hLt hRp
    have hcH := held_cell
    refine region_rel (by kernel_rfl) (by kernel_rfl) ?_
    repeat
      ((with_reducible refine relStep (fun K hK => ?_))
       (have HK := Lib.hid hK)
       clear hK
       (apply relInl
        · intro r n hf
          have Hf := Lib.hid hf
          clear hf
          (first
            | (fail)
            | (unfold relAt
               go_simp
               (first | (refine relUpon_val ?_ (Below.refl _ _); exact rfl) | exact rfl | (refine relUpon_enter ?_; (first | (go_at_call 56; (with_reducible refine (HS0.out _).mono ?_); rintro e w9 ⟨rfl, hb⟩; exact ⟨⟨_, rfl, rfl⟩, hb⟩) | (go_at_call 57; (with_reducible first | refine (HS1.out _).mono ?_ | refine (HS2.out _).mono ?_); rintro e w9 ⟨rfl, hb⟩; exact ⟨⟨_, rfl, rfl⟩, hb⟩) | (go_at_call 58; (with_reducible refine (HS4.out _).mono ?_); rintro e w9 ⟨rfl, hb⟩; exact ⟨⟨_, rfl, rfl⟩, hb⟩))))))
        (simp only [Act.put, List.setIfInBounds_toArray, List.set_cons_zero, List.set_cons_succ])
        (with_reducible refine HK.out _ _ ?_)
        clear HK K))
    refine relNil ?_
    intro r2 n2 hx2
    clear hcH
    (try simp only [List.nil_append, List.cons_append, List.mem_cons, List.not_mem_nil, or_false, forall_eq_or_imp, forall_eq, false_implies, implies_true] at hx2)
    obtain ⟨w2, hb2⟩ := n2
    (try dsimp only)
    obtain ⟨hc2, hf2⟩ := bcell hb2
    have hz2 := hb2.size
    (try simp at hz2)
    have HB2 := Lib.hid (HB1.out.trans (hb2.mono HB1.out.size))
    have HX2 := Lib.hid (HX1.out.mono hb2)
    clear hb2 hc2 hf2 hz2 c0 c1 c2 c3 c5 rs1 rs2 rs3 rs4 rs5 rs6 rs7 rs8 rs9 rsa hlx HB1 HX1 HS0 HS1 HS2 HS4
    go_upto_region 4 with (fail)
    -- the labels
    have hL0 := (lightL_iff _).1 HLt.out.l0
    have hL1 := (lightL_iff _).1 HLt.out.l1
    have hL2 := (lightL_iff _).1 HLt.out.l2
    have hv : h2B p = ((hdB p ++ prB ⟨#[108, 97, 98, 101, 108]⟩ p.labs) ++ prB ⟨#[115, 101, 108, 101, 99, 116]⟩ p.sels) ++ prB ⟨#[97, 112, 97, 114, 116]⟩ p.aprs := rfl
    rw [HV.out] at hv
    obtain ⟨y1, hxy1⟩ : ∃ zz, prB ⟨#[108, 97, 98, 101, 108]⟩ p.labs = zz := ⟨_, rfl⟩
    have zxy1 := prB_size (nm := ⟨#[108, 97, 98, 101, 108]⟩) (l := p.labs) hL0.1 (by decide) hL0.2
    have HPy1 := Lib.hid (fun V (hV : Below w.heap.size w V) => show Calls Tryz.prog 59 #[.string ⟨#[108, 97, 98, 101, 108]⟩, .slice p.la p.labs.length p.lk] V fun e w' => e = .returned (.string y1) ∧ Below V.heap.size V w' from (pairs_any ⟨#[108, 97, 98, 101, 108]⟩ _ _ p.labs V ((HAp.out V hV).labs) hL0.1 (by decide) hL0.2).mono fun e w' h => ⟨by rw [← hxy1]; exact h.1.1, h.2⟩)
    rw [hxy1] at zxy1
    obtain ⟨y2, hxy2⟩ : ∃ zz, prB ⟨#[115, 101, 108, 101, 99, 116]⟩ p.sels = zz := ⟨_, rfl⟩
    have zxy2 := prB_size (nm := ⟨#[115, 101, 108, 101, 99, 116]⟩) (l := p.sels) hL1.1 (by decide) hL1.2
    have HPy2 := Lib.hid (fun V (hV : Below w.heap.size w V) => show Calls Tryz.prog 59 #[.string ⟨#[115, 101, 108, 101, 99, 116]⟩, .slice p.sa p.sels.length p.sk] V fun e w' => e = .returned (.string y2) ∧ Below V.heap.size V w' from (pairs_any ⟨#[115, 101, 108, 101, 99, 116]⟩ _ _ p.sels V ((HAp.out V hV).sels) hL1.1 (by decide) hL1.2).mono fun e w' h => ⟨by rw [← hxy2]; exact h.1.1, h.2⟩)
    rw [hxy2] at zxy2
    obtain ⟨y3, hxy3⟩ : ∃ zz, prB ⟨#[97, 112, 97, 114, 116]⟩ p.aprs = zz := ⟨_, rfl⟩
    have zxy3 := prB_size (nm := ⟨#[97, 112, 97, 114, 116]⟩) (l := p.aprs) hL2.1 (by decide) hL2.2
    have HPy3 := Lib.hid (fun V (hV : Below w.heap.size w V) => show Calls Tryz.prog 59 #[.string ⟨#[97, 112, 97, 114, 116]⟩, .slice p.aa p.aprs.length p.ak] V fun e w' => e = .returned (.string y3) ∧ Below V.heap.size V w' from (pairs_any ⟨#[97, 112, 97, 114, 116]⟩ _ _ p.aprs V ((HAp.out V hV).aprs) hL2.1 (by decide) hL2.2).mono fun e w' h => ⟨by rw [← hxy3]; exact h.1.1, h.2⟩)
    rw [hxy3] at zxy3
    rw [hxy1, hxy2, hxy3] at hv
    obtain ⟨s1, es1, zs1, rs1⟩ := cat_step sa y1 1000 40000 hza zxy1 (by omega)
    obtain ⟨s2, es2, zs2, rs2⟩ := cat_step s1 y2 (1000 + 40000) 40000 zs1 zxy2 (by omega)
    obtain ⟨s3, es3, zs3, rs3⟩ := cat_step s2 y3 (1000 + 40000 + 40000) 40000 zs2 zxy3 (by omega)
    rw [← es1, ← es2, ← es3] at hv
    have HV2 := Lib.hid hv
    have hlx := HX2.out.lt
    have c6 : w2.cell? ⟨w.heap.size, 6, none⟩ = some (.slice p.la p.labs.length p.lk) := HX2.out.cell 6
    have c7 : w2.cell? ⟨w.heap.size, 7, none⟩ = some (.slice p.sa p.sels.length p.sk) := HX2.out.cell 7
    have c11 : w2.cell? ⟨w.heap.size, 11, none⟩ = some (.slice p.aa p.aprs.length p.ak) := HX2.out.cell 11
    have hz3 : s3.size ≤ 200000 := by omega
    clear hv es1 es2 es3 zs1 zs2 zs3 hxy1 hxy2 hxy3 zxy1 zxy2 zxy3 hza hL0 hL1 hL2 HV hx2
    have hcH := held_cell
    refine region_rel (by kernel_rfl) (by kernel_rfl) ?_
    repeat
      ((with_reducible refine relStep (fun K hK => ?_))
       (have HK := Lib.hid hK)
       clear hK
       (apply relInl
        · intro r n hf
          have Hf := Lib.hid hf
          clear hf
          (first
            | (fail)
            | (unfold relAt
               go_simp
               (first | (refine relUpon_val ?_ (Below.refl _ _); exact rfl) | exact rfl | (refine relUpon_enter ?_; (first | (go_at_call 59; (with_reducible refine (HPy1.out _ (HB2.out.trans (n.below.mono HB2.out.size))).mono ?_); rintro e w9 ⟨rfl, hb⟩; exact ⟨⟨_, rfl, rfl⟩, hb⟩) | (go_at_call 59; (with_reducible refine (HPy2.out _ (HB2.out.trans (n.below.mono HB2.out.size))).mono ?_); rintro e w9 ⟨rfl, hb⟩; exact ⟨⟨_, rfl, rfl⟩, hb⟩) | (go_at_call 59; (with_reducible refine (HPy3.out _ (HB2.out.trans (n.below.mono HB2.out.size))).mono ?_); rintro e w9 ⟨rfl, hb⟩; exact ⟨⟨_, rfl, rfl⟩, hb⟩))))))
        (simp only [Act.put, List.setIfInBounds_toArray, List.set_cons_zero, List.set_cons_succ])
        (with_reducible refine HK.out _ _ ?_)
        clear HK K))
    refine relNil ?_
    intro r3 n3 hx3
    clear hcH
    (try simp only [List.nil_append, List.cons_append, List.mem_cons, List.not_mem_nil, or_false, forall_eq_or_imp, forall_eq, false_implies, implies_true] at hx3)
    obtain ⟨w3, hb3⟩ := n3
    (try dsimp only)
    obtain ⟨hc3, hf3⟩ := bcell hb3
    have hz3 := hb3.size
    (try simp at hz3)
    have HB3 := Lib.hid (HB2.out.trans (hb3.mono HB2.out.size))
    have HX3 := Lib.hid (HX2.out.mono hb3)
    clear hb3 hc3 hf3 c6 c7 c11 rs1 rs2 rs3 hlx HB2 HX2 HPy1 HPy2 HPy3 hx3
    -- the terms
    go_wp2
    obtain ⟨V3, hV3⟩ : ∃ V, V = w3 := ⟨_, rfl⟩
    rw [← hV3] at HB3 HX3 ⊢
    clear hV3
    obtain ⟨nt, hnt⟩ : ∃ n, p.trms.length = n := ⟨_, rfl⟩
    have Hnt := Lib.hid hnt
    have hnt16 : nt ≤ 16 := by rw [← hnt]; exact HRp.out.tl
    have HC8 := Lib.hid (show V3.cell? ⟨w.heap.size, 8, none⟩ = some (.slice p.ta nt p.tk) by rw [← hnt]; exact HX3.out.cell 8)
    clear hnt
    go_loopw [3, 4] (fun vs vi wr => ∃ (k : Nat) (s : ByteArray), k ≤ nt ∧ vi = .int .i64 k ∧ vs = .string s ∧ s = (p.trms.take k).foldl tmS s3 ∧ s.size ≤ 200000 + k * 50000 ∧ Below V3.heap.size V3 wr) (fun _ vi _ => nt - (intOf vi).toNat)
    case atStart => exact ⟨0, s3, Nat.zero_le _, rfl, rfl, rfl, by omega, Below.refl _ _⟩
    case round =>
      obtain ⟨k, s, hk, rfl, rfl, hE, hz, hB⟩ := hrel
      have HBk := Lib.hid hB
      have HXk := Lib.hid (HX3.out.mono hB)
      have HBw := Lib.hid (HB3.out.trans (hB.mono HB3.out.size))
      have hbz := HBk.out.size
      have c8 : wr.cell? ⟨w.heap.size, 8, none⟩ = some (.slice p.ta nt p.tk) := HC8.out ▸ hB.cell (p := ⟨w.heap.size, 8, none⟩) HX3.out.lt
      have hlx := HXk.out.lt
      by_cases hlt : k < nt
      · obtain ⟨t, ht⟩ := mem_at (l := p.trms) (k := k) (by rw [Hnt.out]; exact hlt)
        have htm := List.mem_of_getElem? ht
        obtain ⟨b, o, hba, hb, hc⟩ := (HAp.out wr HBw.out).trms (by rw [Hnt.out]; omega)
        rw [hba] at c8
        have hTv := (HAp.out wr HBw.out).trmA t htm
        obtain ⟨hl1, hl2, hl3⟩ := Lb.lightTm_ok (HLt.out.tt t htm)
        obtain ⟨jj, hop, hj7, hjo, hoz⟩ := ops_at (HRp.out.op t htm)
        have HRq := Lib.hid (show wr.rangeAt b (o + k * 3) [.string t.key, .int .i64 t.op, .slice t.va t.vals.length t.vk] from fun j v hj => by
          have hj3 : j < 3 := (List.getElem?_eq_some_iff.1 hj).1
          rw [hc k t ht j hj3]
          exact hj)
        have hnx := fold_next ht tmS s3
        rw [← hE] at hnx
        unfold tmS at hnx
        have HNx := Lib.hid hnx
        obtain ⟨nv, hnv⟩ : ∃ n, t.vals.length = n := ⟨_, rfl⟩
        obtain ⟨ob, hob⟩ : ∃ n, opsB t.op = n := ⟨_, rfl⟩
        have hv : teS s t = (((s ++ ⟨#[32, 40, 116, 101, 114, 109, 32]⟩) ++ t.key) ++ ⟨#[32]⟩) ++ opsB t.op := rfl
        rw [hob] at hv hjo hoz
        rw [hop, hnv] at HRq
        rw [hnv] at hl1
        have Hnv := Lib.hid hnv
        obtain ⟨u1, eu1, zu1, ru1⟩ := cat_step s ⟨#[32, 40, 116, 101, 114, 109, 32]⟩ (200000 + k * 50000) 10 hz (by decide) (by omega)
        obtain ⟨u2, eu2, zu2, ru2⟩ := cat_step u1 t.key (200000 + k * 50000 + 10) 300 zu1 hl2 (by omega)
        obtain ⟨u3, eu3, zu3, ru3⟩ := cat_step u2 ⟨#[32]⟩ (200000 + k * 50000 + 10 + 300) 1 zu2 (by decide) (by omega)
        obtain ⟨u4, eu4, zu4, ru4⟩ := cat_step u3 ob (200000 + k * 50000 + 10 + 300 + 1) 20 zu3 hoz (by omega)
        rw [← eu1, ← eu2, ← eu3, ← eu4] at hv
        have HV4 := Lib.hid hv
        have HTv := Lib.hid hTv.1
        have HL3 := Lib.hid hl3
        obtain ⟨Z, hZ⟩ : ∃ Z, wr.heap.size = Z := ⟨_, rfl⟩
        obtain ⟨w5, hw5⟩ : ∃ V, V = wr.alloc (.cells #[.string t.key, .int .i64 jj, .slice t.va nv t.vk] 54) := ⟨_, rfl⟩
        have HZ5 := Lib.hid (show Box Z [.string t.key, .int .i64 jj, .slice t.va nv t.vk] w5 by rw [hw5, ← hZ]; exact Box.new wr [.string t.key, .int .i64 jj, .slice t.va nv t.vk] 54)
        have hbb : Below wr.heap.size wr w5 := by rw [hw5]; exact (Below.refl _ _).alloc (Nat.le_refl _) _
        have HB5 := Lib.hid (HBk.out.trans (hbb.mono hbz))
        have HTv5 := Lib.hid (HTv.out.mono hbb)
        have z0 : w5.cell? ⟨Z, 0, none⟩ = some (.string t.key) := HZ5.out.cell 0
        have z1 : w5.cell? ⟨Z, 1, none⟩ = some (.int .i64 jj) := HZ5.out.cell 1
        have hlz := HZ5.out.lt
        have HP1 := Lib.hid (show ∀ u ∈ [Value.string t.key, .int .i64 jj, .slice t.va nv t.vk], u.oneCell' = true by
          intro u hu
          simp only [List.mem_cons, List.not_mem_nil, or_false] at hu
          rcases hu with rfl | rfl | rfl <;> rfl)
        clear hE hB hc ht htm hTv hl2 hl3 hop hnx hnv hob hv eu1 eu2 eu3 eu4 hbb hba
        go_upto_region 9 with (first
          | ((with_reducible refine at_load (ty := 54) ?_); refine load_cells rfl 54 (.tmp 64) rfl b (o + k * 3) rfl [.string t.key, .int .i64 jj, .slice t.va nv t.vk] _ Tryz.underlying54 rfl (by kernel_rfl) HRq.out ?_)
          | ((with_reducible refine at_store (ty := 54) ?_); refine store_new rfl 54 (.tmp 5) (.tmp 65) rfl _ _ (by first | rfl | (show _ = Value.pointer (some ⟨wr.heap.size, 0, none⟩); rw [hZ]; rfl)) rfl (by kernel_rfl) rfl (List.all_eq_true.2 HP1.out) rfl ?_))
        (try rw [hZ])
        rw [← hw5]
        clear hw5 hZ c8 hlx
        have hjb : ((jj : Int) < 7) = True := eq_true (by omega)
        have hcH := held_cell
        refine region_rel (by kernel_rfl) (by kernel_rfl) ?_
        repeat
          ((with_reducible refine relStep (fun K hK => ?_))
           (have HK := Lib.hid hK)
           clear hK
           (apply relInl
            · intro r n hf
              have Hf := Lib.hid hf
              clear hf
              (first
                | (fail)
                | (unfold relAt
                   go_simp
                   (first | (refine relUpon_val ?_ (Below.refl _ _); exact rfl) | exact rfl | (refine relUpon_enter ?_; fail))))
            (simp only [Act.put, List.setIfInBounds_toArray, List.set_cons_zero, List.set_cons_succ])
            (with_reducible refine HK.out _ _ ?_)
            clear HK K))
        (with_reducible refine relStep (fun K hK => ?_))
        (have HK := Lib.hid hK)
        clear hK
        refine relInr (IsTx opsL 7) (IsTx.stays _ _) (fun r n hf => ?_) ?_
        · have Hf := Lib.hid hf
          clear hf HK K
          unfold relAt
          (skip)
          go_simp
          ((refine relUpon_enter ?_; go_at_call 60; (with_reducible refine (ops_any _).mono ?_); rintro e w9 ⟨⟨v, rfl, hv⟩, hb⟩; exact ⟨⟨_, rfl, hv⟩, hb⟩))
        (simp only [Act.put, List.setIfInBounds_toArray, List.set_cons_zero, List.set_cons_succ])
        (with_reducible refine HK.out _ _ ?_)
        clear HK K
        repeat
          ((with_reducible refine relStep (fun K hK => ?_))
           (have HK := Lib.hid hK)
           clear hK
           (apply relInl
            · intro r n hf
              have Hf := Lib.hid hf
              clear hf
              (first
                | (fail)
                | (unfold relAt
                   go_simp
                   (first | (refine relUpon_val ?_ (Below.refl _ _); exact rfl) | exact rfl | (refine relUpon_enter ?_; fail))))
            (simp only [Act.put, List.setIfInBounds_toArray, List.set_cons_zero, List.set_cons_succ])
            (with_reducible refine HK.out _ _ ?_)
            clear HK K))
        (with_reducible refine relStep (fun K hK => ?_))
        (have HK := Lib.hid hK)
        clear hK
        refine relInr (IsEl ob) (IsEl.stays _) (fun r n hf => ?_) ?_
        · have Hf := Lib.hid hf
          clear hf HK K
          unfold relAt
          ((obtain ⟨bb, e9, hb9, hc9⟩ := given_at Hf.out 0 rfl (by dsimp only; decide +kernel)))
          go_simp
          ((refine relUpon_val ?_ (Below.refl _ _); exact ⟨bb, _, rfl, hb9, hc9 jj _ hjo⟩))
        (simp only [Act.put, List.setIfInBounds_toArray, List.set_cons_zero, List.set_cons_succ])
        (with_reducible refine HK.out _ _ ?_)
        clear HK K
        ((with_reducible refine relStep (fun K hK => ?_))
         (have HK := Lib.hid hK)
         clear hK
         (apply relInl
          · intro r n hf
            have Hf := Lib.hid hf
            clear hf
            ((obtain ⟨bb, ii, e9, hb9, hc9⟩ := given_at Hf.out 1 rfl (by dsimp only; decide +kernel); unfold relAt; go_simp; (refine relUpon_val ?_ (Below.refl _ _)); exact rfl)))
         (simp only [Act.put, List.setIfInBounds_toArray, List.set_cons_zero, List.set_cons_succ])
         (with_reducible refine HK.out _ _ ?_)
         clear HK K)
        repeat
          ((with_reducible refine relStep (fun K hK => ?_))
           (have HK := Lib.hid hK)
           clear hK
           (apply relInl
            · intro r n hf
              have Hf := Lib.hid hf
              clear hf
              (first
                | (fail)
                | (unfold relAt
                   go_simp
                   (first | (refine relUpon_val ?_ (Below.refl _ _); exact rfl) | exact rfl | (refine relUpon_enter ?_; fail))))
            (simp only [Act.put, List.setIfInBounds_toArray, List.set_cons_zero, List.set_cons_succ])
            (with_reducible refine HK.out _ _ ?_)
            clear HK K))
        refine relNil ?_
        intro r6 n6 hx6
        clear hcH
        (try simp only [List.nil_append, List.cons_append, List.mem_cons, List.not_mem_nil, or_false, forall_eq_or_imp, forall_eq, false_implies, implies_true] at hx6)
        obtain ⟨w6, hb6⟩ := n6
        (try dsimp only)
        obtain ⟨hc6, hf6⟩ := bcell hb6
        have hz6 := hb6.size
        (try simp at hz6)
        (try simp only [Nat.zero_add, Nat.reduceAdd])
        have HB6 := Lib.hid (HB5.out.trans (hb6.mono HB5.out.size))
        have HZ6 := Lib.hid (HZ5.out.mono hb6)
        have HTv6 := Lib.hid (HTv5.out.mono hb6)
        clear hb6 hc6 hf6 hz6 z0 z1 hlz ru1 ru2 ru3 ru4 hjb hj7 hjo hoz zu1 zu2 zu3 HZ5 HB5 HTv5 HTv hx6 HRq HP1
        go_wp2
        obtain ⟨V6, hV6⟩ : ∃ V, V = w6 := ⟨_, rfl⟩
        rw [← hV6] at HB6 HZ6 HTv6 ⊢
        clear hV6
        go_loopw [3, 6] (fun vs vj wy => ∃ (j : Nat) (s' : ByteArray), j ≤ nv ∧ vj = .int .i64 j ∧ vs = .string s' ∧ s' = (t.vals.take j).foldl vaS u4 ∧ s'.size ≤ 200000 + k * 50000 + 400 + j * 400 ∧ Below V6.heap.size V6 wy) (fun _ vj _ => nv - (intOf vj).toNat)
        case atStart => exact ⟨0, u4, Nat.zero_le _, rfl, rfl, rfl, by omega, Below.refl _ _⟩
        case round =>
          obtain ⟨j, s', hj, rfl, rfl, hE, hz', hB⟩ := hrel
          have HBj := Lib.hid hB
          have HZj := Lib.hid (HZ6.out.mono hB)
          have z2 : wr.cell? ⟨Z, 2, none⟩ = some (.slice t.va nv t.vk) := HZj.out.cell 2
          have hlz := HZj.out.lt
          by_cases hjt : j < nv
          · obtain ⟨v, hv⟩ := mem_at (l := t.vals) (k := j) (by rw [Hnv.out]; exact hjt)
            obtain ⟨bv, ov, hva, hbv, hcv⟩ := (HTv6.out.mono hB) (by rw [Hnv.out]; omega)
            rw [hva] at z2
            have c0 : wr.cell? ⟨bv, ov + j, none⟩ = some (.string v) := by
              have h9 := hcv j v hv 0 (by decide)
              rw [Nat.mul_one, Nat.add_zero] at h9
              exact h9
            have hat := atB_size (HL3.out v (List.mem_of_getElem? hv))
            have HAt := Lib.hid (fun V => atom_any v V)
            have hnx := fold_next hv vaS u4
            rw [← hE] at hnx
            unfold vaS at hnx
            obtain ⟨x, hx⟩ : ∃ x, atB v = x := ⟨_, rfl⟩
            rw [hx] at hnx hat HAt
            obtain ⟨q1, eq1, zq1, rq1⟩ := cat_step s' ⟨#[32]⟩ (200000 + k * 50000 + 400 + j * 400) 1 hz' (by decide) (by omega)
            obtain ⟨q2, eq2, zq2, rq2⟩ := cat_step q1 x (200000 + k * 50000 + 400 + j * 400 + 1) 300 zq1 hat (by omega)
            rw [← eq1, ← eq2] at hnx
            have HNy := Lib.hid hnx
            clear hE hB hv hcv hnx hx eq1 eq2 hva
            go_wp2_with (go_at_call 61; (with_reducible refine (HAt.out _).mono ?_); rintro e w7 ⟨rfl, hb⟩; have HB7 := Lib.hid (HBj.out.trans (hb.mono HBj.out.size)); clear hb)
            go_roundw
            case rel => exact ⟨j + 1, q2, by omega, by go_num, rfl, HNy.out.symm, by omega, HB7.out⟩
            case measure => simp [intOf]; omega
          · obtain rfl : j = nv := by omega
            have hE2 : s' = t.vals.foldl vaS u4 := by rw [hE, List.take_of_length_le (by rw [Hnv.out]; exact Nat.le_refl _)]
            obtain ⟨q1, eq1, zq1, rq1⟩ := cat_step s' ⟨#[41]⟩ (200000 + k * 50000 + 400 + j * 400) 1 hz' (by decide) (by omega)
            have HNy := Lib.hid (show (p.trms.take (k + 1)).foldl tmS s3 = q1 by rw [eq1, hE2, ← HV4.out]; exact HNx.out)
            clear hE hB hE2 eq1
            go_wp2
            go_roundw
            case rel => exact ⟨k + 1, q1, by omega, by go_num, rfl, HNy.out.symm, by omega, HB6.out.trans (HBj.out.mono HB6.out.size)⟩
            case measure => simp [intOf]; omega
      · obtain rfl : k = nt := by omega
        have HE := Lib.hid (show t1B p = s by unfold t1B; rw [HV2.out, hE, List.take_of_length_le (by rw [Hnt.out]; exact Nat.le_refl _)])
        have hzs : s.size ≤ 1000000 := by omega
        have HB3 := Lib.hid HBw.out
        have HX3 := Lib.hid HXk.out
        clear hE hB hz hk HBk HXk HBw HV2 Hnt HC8 hbz hnt16 hz3
        go_wp2
        clear c8 hlx
        obtain ⟨V7, hV7⟩ : ∃ V, V = wr := ⟨_, rfl⟩
        rw [← hV7] at HB3 HX3 ⊢
        clear hV7
        -- the tolerations
        obtain ⟨nb, hnb⟩ : ∃ n, p.bers.length = n := ⟨_, rfl⟩
        have Hnb := Lib.hid hnb
        have hnb16 : nb ≤ 16 := by rw [← hnb]; exact HRp.out.bl
        have HC9 := Lib.hid (show V7.cell? ⟨w.heap.size, 9, none⟩ = some (.slice p.ba nb p.bk) by rw [← hnb]; exact HX3.out.cell 9)
        clear hnb
        go_loopw [3, 7] (fun vs vi wr => ∃ (k : Nat) (s' : ByteArray), k ≤ nb ∧ vi = .int .i64 k ∧ vs = .string s' ∧ s' = (p.bers.take k).foldl beS s ∧ s'.size ≤ 1000000 + k * 2000 ∧ Below V7.heap.size V7 wr) (fun _ vi _ => nb - (intOf vi).toNat)
        case atStart => exact ⟨0, s, Nat.zero_le _, rfl, rfl, rfl, by omega, Below.refl _ _⟩
        case round =>
          obtain ⟨k, s', hk, rfl, rfl, hE, hz, hB⟩ := hrel
          have HBk := Lib.hid hB
          have HXk := Lib.hid (HX3.out.mono hB)
          have HBw := Lib.hid (HB3.out.trans (hB.mono HB3.out.size))
          have hbz := HBk.out.size
          have c9 : wr.cell? ⟨w.heap.size, 9, none⟩ = some (.slice p.ba nb p.bk) := HC9.out ▸ hB.cell (p := ⟨w.heap.size, 9, none⟩) HX3.out.lt
          have hlx := HXk.out.lt
          by_cases hlt : k < nb
          · obtain ⟨t, ht⟩ := mem_at (l := p.bers) (k := k) (by rw [Hnb.out]; exact hlt)
            have htm := List.mem_of_getElem? ht
            obtain ⟨b, o, hba, hb, hc⟩ := (HAp.out wr HBw.out).bers (by rw [Hnb.out]; omega)
            rw [hba] at c9
            have hsh : t.key.size ≤ 300 ∧ t.val.size ≤ 300 := by
              have h9 := HLt.out.bl
              unfold lightB at h9
              rw [Bool.and_eq_true, Bool.and_eq_true] at h9
              exact of_decide_eq_true (List.all_eq_true.1 h9.2.1 t htm)
            obtain ⟨jj, hop, hj7, hjo, hoz⟩ := eff_at (HRp.out.ef t htm)
            have hnx := fold_next ht beS s
            rw [← hE] at hnx
            unfold beS at hnx
            have za1 := atB_size hsh.1
            have za2 := atB_size hsh.2
            have HA1 := Lib.hid (fun V => atom_any t.key V)
            have HA2 := Lib.hid (fun V => atom_any t.val V)
            obtain ⟨ob, hob⟩ : ∃ n, efwB t.eff = n := ⟨_, rfl⟩
            obtain ⟨a1, ha1⟩ : ∃ n, atB t.key = n := ⟨_, rfl⟩
            obtain ⟨a2, ha2⟩ : ∃ n, atB t.val = n := ⟨_, rfl⟩
            obtain ⟨any, hany⟩ : ∃ n, t.any = n := ⟨_, rfl⟩
            rw [hob] at hnx hjo hoz
            rw [ha1] at hnx za1 HA1
            rw [ha2] at hnx za2 HA2
            rw [hany] at hnx
            have HNx := Lib.hid hnx
            have HRq := Lib.hid (show wr.rangeAt b (o + k * 4) [.string t.key, .string t.val, .bool any, .int .i64 jj] from fun j v hj => by
              have hj4 : j < 4 := (List.getElem?_eq_some_iff.1 hj).1
              rw [hc k t ht j hj4, ← hany, ← hop] at *
              exact hj)
            obtain ⟨Z, hZ⟩ : ∃ Z, wr.heap.size = Z := ⟨_, rfl⟩
            obtain ⟨w5, hw5⟩ : ∃ V, V = wr.alloc (.cells #[.string t.key, .string t.val, .bool any, .int .i64 jj] 70) := ⟨_, rfl⟩
            have HZ5 := Lib.hid (show Box Z [.string t.key, .string t.val, .bool any, .int .i64 jj] w5 by rw [hw5, ← hZ]; exact Box.new wr [.string t.key, .string t.val, .bool any, .int .i64 jj] 70)
            have hbb : Below wr.heap.size wr w5 := by rw [hw5]; exact (Below.refl _ _).alloc (Nat.le_refl _) _
            have HB5 := Lib.hid (HBk.out.trans (hbb.mono hbz))
            have z0 : w5.cell? ⟨Z, 0, none⟩ = some (.string t.key) := HZ5.out.cell 0
            have z1 : w5.cell? ⟨Z, 1, none⟩ = some (.string t.val) := HZ5.out.cell 1
            have z2 : w5.cell? ⟨Z, 2, none⟩ = some (.bool any) := HZ5.out.cell 2
            have z3 : w5.cell? ⟨Z, 3, none⟩ = some (.int .i64 jj) := HZ5.out.cell 3
            have hlz := HZ5.out.lt
            have HP1 := Lib.hid (show ∀ u ∈ [Value.string t.key, .string t.val, .bool any, .int .i64 jj], u.oneCell' = true by
              intro u hu
              simp only [List.mem_cons, List.not_mem_nil, or_false] at hu
              rcases hu with rfl | rfl | rfl | rfl <;> rfl)
            have hjb : ((jj : Int) < 4) = True := eq_true (by omega)
            clear hE hB hc ht htm hop hnx hob hbb hba ha1 ha2 hany hsh
            go_upto_region 19 with (first
              | ((with_reducible refine at_load (ty := 70) ?_); refine load_cells rfl 70 (.tmp 106) rfl b (o + k * 4) rfl [.string t.key, .string t.val, .bool any, .int .i64 jj] _ Tryz.underlying70 rfl (by kernel_rfl) HRq.out ?_)
              | ((with_reducible refine at_store (ty := 70) ?_); refine store_new rfl 70 (.tmp 8) (.tmp 107) rfl _ _ (by first | rfl | (show _ = Value.pointer (some ⟨wr.heap.size, 0, none⟩); rw [hZ]; rfl)) rfl (by kernel_rfl) rfl (List.all_eq_true.2 HP1.out) rfl ?_))
            (try rw [hZ])
            rw [← hw5]
            clear hw5 hZ c9 hlx
            cases any with
            | true =>
              obtain ⟨u1, eu1, zu1, ru1⟩ := cat_step s' ⟨#[32, 40, 98, 101, 97, 114, 97, 110, 121, 32]⟩ (1000000 + k * 2000) 20 hz (by decide) (by omega)
              obtain ⟨u2, eu2, zu2, ru2⟩ := cat_step u1 a1 (1000000 + k * 2000 + 20) 300 zu1 za1 (by omega)
              obtain ⟨u3, eu3, zu3, ru3⟩ := cat_step u2 ⟨#[32]⟩ (1000000 + k * 2000 + 20 + 300) 1 zu2 (by decide) (by omega)
              obtain ⟨u4, eu4, zu4, ru4⟩ := cat_step u3 ob (1000000 + k * 2000 + 20 + 300 + 1) 20 zu3 hoz (by omega)
              obtain ⟨u5, eu5, zu5, ru5⟩ := cat_step u4 ⟨#[41]⟩ (1000000 + k * 2000 + 20 + 300 + 1 + 20) 1 zu4 (by decide) (by omega)
              have HNy := Lib.hid (show (p.bers.take (k + 1)).foldl beS s = u5 by rw [eu5, eu4, eu3, eu2, eu1]; exact HNx.out)
              clear eu1 eu2 eu3 eu4 eu5
              go_upto_region 20 with (fail)
              have hcH := held_cell
              refine region_rel (by kernel_rfl) (by kernel_rfl) ?_
              repeat
                ((with_reducible refine relStep (fun K hK => ?_))
                 (have HK := Lib.hid hK)
                 clear hK
                 (apply relInl
                  · intro r n hf
                    have Hf := Lib.hid hf
                    clear hf
                    (first
                      | (fail)
                      | (unfold relAt
                         go_simp
                         (first | (refine relUpon_val ?_ (Below.refl _ _); exact rfl) | exact rfl | (refine relUpon_enter ?_; (go_at_call 61; (with_reducible refine (HA1.out _).mono ?_); rintro e w9 ⟨rfl, hb⟩; exact ⟨⟨_, rfl, rfl⟩, hb⟩)))))
                  (simp only [Act.put, List.setIfInBounds_toArray, List.set_cons_zero, List.set_cons_succ])
                  (with_reducible refine HK.out _ _ ?_)
                  clear HK K))
              (with_reducible refine relStep (fun K hK => ?_))
              (have HK := Lib.hid hK)
              clear hK
              refine relInr (IsTx effL 4) (IsTx.stays _ _) (fun r n hf => ?_) ?_
              · have Hf := Lib.hid hf
                clear hf HK K
                unfold relAt
                (skip)
                go_simp
                ((refine relUpon_enter ?_; go_at_call 62; (with_reducible refine (effects_any _).mono ?_); rintro e w9 ⟨⟨v, rfl, hv⟩, hb⟩; exact ⟨⟨_, rfl, hv⟩, hb⟩))
              (simp only [Act.put, List.setIfInBounds_toArray, List.set_cons_zero, List.set_cons_succ])
              (with_reducible refine HK.out _ _ ?_)
              clear HK K
              repeat
                ((with_reducible refine relStep (fun K hK => ?_))
                 (have HK := Lib.hid hK)
                 clear hK
                 (apply relInl
                  · intro r n hf
                    have Hf := Lib.hid hf
                    clear hf
                    (first
                      | (fail)
                      | (unfold relAt
                         go_simp
                         (first | (refine relUpon_val ?_ (Below.refl _ _); exact rfl) | exact rfl | (refine relUpon_enter ?_; fail))))
                  (simp only [Act.put, List.setIfInBounds_toArray, List.set_cons_zero, List.set_cons_succ])
                  (with_reducible refine HK.out _ _ ?_)
                  clear HK K))
              (with_reducible refine relStep (fun K hK => ?_))
              (have HK := Lib.hid hK)
              clear hK
              refine relInr (IsEl ob) (IsEl.stays _) (fun r n hf => ?_) ?_
              · have Hf := Lib.hid hf
                clear hf HK K
                unfold relAt
                ((obtain ⟨bb, e9, hb9, hc9⟩ := given_at Hf.out 0 rfl (by dsimp only; decide +kernel)))
                go_simp
                ((refine relUpon_val ?_ (Below.refl _ _); exact ⟨bb, _, rfl, hb9, hc9 jj _ hjo⟩))
              (simp only [Act.put, List.setIfInBounds_toArray, List.set_cons_zero, List.set_cons_succ])
              (with_reducible refine HK.out _ _ ?_)
              clear HK K
              ((with_reducible refine relStep (fun K hK => ?_))
               (have HK := Lib.hid hK)
               clear hK
               (apply relInl
                · intro r n hf
                  have Hf := Lib.hid hf
                  clear hf
                  ((obtain ⟨bb, ii, e9, hb9, hc9⟩ := given_at Hf.out 1 rfl (by dsimp only; decide +kernel); unfold relAt; go_simp; (refine relUpon_val ?_ (Below.refl _ _)); exact rfl)))
               (simp only [Act.put, List.setIfInBounds_toArray, List.set_cons_zero, List.set_cons_succ])
               (with_reducible refine HK.out _ _ ?_)
               clear HK K)
              repeat
                ((with_reducible refine relStep (fun K hK => ?_))
                 (have HK := Lib.hid hK)
                 clear hK
                 (apply relInl
                  · intro r n hf
                    have Hf := Lib.hid hf
                    clear hf
                    (first
                      | (fail)
                      | (unfold relAt
                         go_simp
                         (first | (refine relUpon_val ?_ (Below.refl _ _); exact rfl) | exact rfl | (refine relUpon_enter ?_; fail))))
                  (simp only [Act.put, List.setIfInBounds_toArray, List.set_cons_zero, List.set_cons_succ])
                  (with_reducible refine HK.out _ _ ?_)
                  clear HK K))
              refine relNil ?_
              intro r6 n6 hx6
              clear hcH
              (try simp only [List.nil_append, List.cons_append, List.mem_cons, List.not_mem_nil, or_false, forall_eq_or_imp, forall_eq, false_implies, implies_true] at hx6)
              obtain ⟨w6, hb6⟩ := n6
              (try dsimp only)
              obtain ⟨hc6, hf6⟩ := bcell hb6
              have hz6 := hb6.size
              (try simp at hz6)
              (try simp only [Nat.zero_add, Nat.reduceAdd])
              have HB6 := Lib.hid (HB5.out.trans (hb6.mono HB5.out.size))
              clear hx6 hb6 hc6 hf6 hz6 z0 z1 z2 z3 hlz
              go_wp2
              go_roundw
              case rel => exact ⟨k + 1, u5, by omega, by go_num, rfl, HNy.out.symm, by omega, HB6.out⟩
              case measure => simp [intOf]; omega
            | false =>
              obtain ⟨u1, eu1, zu1, ru1⟩ := cat_step s' ⟨#[32, 40, 98, 101, 97, 114, 32]⟩ (1000000 + k * 2000) 20 hz (by decide) (by omega)
              obtain ⟨u2, eu2, zu2, ru2⟩ := cat_step u1 a1 (1000000 + k * 2000 + 20) 300 zu1 za1 (by omega)
              obtain ⟨u3, eu3, zu3, ru3⟩ := cat_step u2 ⟨#[32]⟩ (1000000 + k * 2000 + 20 + 300) 1 zu2 (by decide) (by omega)
              obtain ⟨u4, eu4, zu4, ru4⟩ := cat_step u3 a2 (1000000 + k * 2000 + 20 + 300 + 1) 300 zu3 za2 (by omega)
              obtain ⟨u5, eu5, zu5, ru5⟩ := cat_step u4 ⟨#[32]⟩ (1000000 + k * 2000 + 20 + 300 + 1 + 300) 1 zu4 (by decide) (by omega)
              obtain ⟨u6, eu6, zu6, ru6⟩ := cat_step u5 ob (1000000 + k * 2000 + 20 + 300 + 1 + 300 + 1) 20 zu5 hoz (by omega)
              obtain ⟨u7, eu7, zu7, ru7⟩ := cat_step u6 ⟨#[41]⟩ (1000000 + k * 2000 + 20 + 300 + 1 + 300 + 1 + 20) 1 zu6 (by decide) (by omega)
              have HNy := Lib.hid (show (p.bers.take (k + 1)).foldl beS s = u7 by rw [eu7, eu6, eu5, eu4, eu3, eu2, eu1]; exact HNx.out)
              clear eu1 eu2 eu3 eu4 eu5 eu6 eu7
              go_upto_region 21 with (fail)
              have hcH := held_cell
              refine region_rel (by kernel_rfl) (by kernel_rfl) ?_
              repeat
                ((with_reducible refine relStep (fun K hK => ?_))
                 (have HK := Lib.hid hK)
                 clear hK
                 (apply relInl
                  · intro r n hf
                    have Hf := Lib.hid hf
                    clear hf
                    (first
                      | (fail)
                      | (unfold relAt
                         go_simp
                         (first | (refine relUpon_val ?_ (Below.refl _ _); exact rfl) | exact rfl | (refine relUpon_enter ?_; (first | (go_at_call 61; (with_reducible refine (HA1.out _).mono ?_); rintro e w9 ⟨rfl, hb⟩; exact ⟨⟨_, rfl, rfl⟩, hb⟩) | (go_at_call 61; (with_reducible refine (HA2.out _).mono ?_); rintro e w9 ⟨rfl, hb⟩; exact ⟨⟨_, rfl, rfl⟩, hb⟩))))))
                  (simp only [Act.put, List.setIfInBounds_toArray, List.set_cons_zero, List.set_cons_succ])
                  (with_reducible refine HK.out _ _ ?_)
                  clear HK K))
              (with_reducible refine relStep (fun K hK => ?_))
              (have HK := Lib.hid hK)
              clear hK
              refine relInr (IsTx effL 4) (IsTx.stays _ _) (fun r n hf => ?_) ?_
              · have Hf := Lib.hid hf
                clear hf HK K
                unfold relAt
                (skip)
                go_simp
                ((refine relUpon_enter ?_; go_at_call 62; (with_reducible refine (effects_any _).mono ?_); rintro e w9 ⟨⟨v, rfl, hv⟩, hb⟩; exact ⟨⟨_, rfl, hv⟩, hb⟩))
              (simp only [Act.put, List.setIfInBounds_toArray, List.set_cons_zero, List.set_cons_succ])
              (with_reducible refine HK.out _ _ ?_)
              clear HK K
              repeat
                ((with_reducible refine relStep (fun K hK => ?_))
                 (have HK := Lib.hid hK)
                 clear hK
                 (apply relInl
                  · intro r n hf
                    have Hf := Lib.hid hf
                    clear hf
                    (first
                      | (fail)
                      | (unfold relAt
                         go_simp
                         (first | (refine relUpon_val ?_ (Below.refl _ _); exact rfl) | exact rfl | (refine relUpon_enter ?_; fail))))
                  (simp only [Act.put, List.setIfInBounds_toArray, List.set_cons_zero, List.set_cons_succ])
                  (with_reducible refine HK.out _ _ ?_)
                  clear HK K))
              (with_reducible refine relStep (fun K hK => ?_))
              (have HK := Lib.hid hK)
              clear hK
              refine relInr (IsEl ob) (IsEl.stays _) (fun r n hf => ?_) ?_
              · have Hf := Lib.hid hf
                clear hf HK K
                unfold relAt
                ((obtain ⟨bb, e9, hb9, hc9⟩ := given_at Hf.out 0 rfl (by dsimp only; decide +kernel)))
                go_simp
                ((refine relUpon_val ?_ (Below.refl _ _); exact ⟨bb, _, rfl, hb9, hc9 jj _ hjo⟩))
              (simp only [Act.put, List.setIfInBounds_toArray, List.set_cons_zero, List.set_cons_succ])
              (with_reducible refine HK.out _ _ ?_)
              clear HK K
              ((with_reducible refine relStep (fun K hK => ?_))
               (have HK := Lib.hid hK)
               clear hK
               (apply relInl
                · intro r n hf
                  have Hf := Lib.hid hf
                  clear hf
                  ((obtain ⟨bb, ii, e9, hb9, hc9⟩ := given_at Hf.out 1 rfl (by dsimp only; decide +kernel); unfold relAt; go_simp; (refine relUpon_val ?_ (Below.refl _ _)); exact rfl)))
               (simp only [Act.put, List.setIfInBounds_toArray, List.set_cons_zero, List.set_cons_succ])
               (with_reducible refine HK.out _ _ ?_)
               clear HK K)
              repeat
                ((with_reducible refine relStep (fun K hK => ?_))
                 (have HK := Lib.hid hK)
                 clear hK
                 (apply relInl
                  · intro r n hf
                    have Hf := Lib.hid hf
                    clear hf
                    (first
                      | (fail)
                      | (unfold relAt
                         go_simp
                         (first | (refine relUpon_val ?_ (Below.refl _ _); exact rfl) | exact rfl | (refine relUpon_enter ?_; fail))))
                  (simp only [Act.put, List.setIfInBounds_toArray, List.set_cons_zero, List.set_cons_succ])
                  (with_reducible refine HK.out _ _ ?_)
                  clear HK K))
              refine relNil ?_
              intro r6 n6 hx6
              clear hcH
              (try simp only [List.nil_append, List.cons_append, List.mem_cons, List.not_mem_nil, or_false, forall_eq_or_imp, forall_eq, false_implies, implies_true] at hx6)
              obtain ⟨w6, hb6⟩ := n6
              (try dsimp only)
              obtain ⟨hc6, hf6⟩ := bcell hb6
              have hz6 := hb6.size
              (try simp at hz6)
              (try simp only [Nat.zero_add, Nat.reduceAdd])
              have HB6 := Lib.hid (HB5.out.trans (hb6.mono HB5.out.size))
              clear hx6 hb6 hc6 hf6 hz6 z0 z1 z2 z3 hlz
              go_wp2
              go_roundw
              case rel => exact ⟨k + 1, u7, by omega, by go_num, rfl, HNy.out.symm, by omega, HB6.out⟩
              case measure => simp [intOf]; omega
          · obtain rfl : k = nb := by omega
            have HE2 := Lib.hid (show b1B p = s' by unfold b1B; rw [HE.out, hE, List.take_of_length_le (by rw [Hnb.out]; exact Nat.le_refl _)])
            have hzs : s'.size ≤ 1100000 := by omega
            have HB3 := Lib.hid HBw.out
            have HX3 := Lib.hid HXk.out
            clear hE hB hz hk HBk HXk HBw HE Hnb HC9 hbz hnb16
            go_wp2
            clear c9 hlx
            obtain ⟨V8, hV8⟩ : ∃ V, V = wr := ⟨_, rfl⟩
            rw [← hV8] at HB3 HX3 ⊢
            clear hV8
            -- the ports
            obtain ⟨np, hnp⟩ : ∃ n, p.prts.length = n := ⟨_, rfl⟩
            have Hnp := Lib.hid hnp
            have hnp16 : np ≤ 16 := by rw [← hnp]; exact HRp.out.pl
            have HC10 := Lib.hid (show V8.cell? ⟨w.heap.size, 10, none⟩ = some (.slice p.pa np p.pk) by rw [← hnp]; exact HX3.out.cell 10)
            clear hnp
            go_loopw [3, 9] (fun vs vi wr => ∃ (k : Nat) (s2 : ByteArray), k ≤ np ∧ vi = .int .i64 k ∧ vs = .string s2 ∧ s2 = (p.prts.take k).foldl poS s' ∧ s2.size ≤ 1100000 + k * 200 ∧ Below V8.heap.size V8 wr) (fun _ vi _ => np - (intOf vi).toNat)
            case atStart => exact ⟨0, s', Nat.zero_le _, rfl, rfl, rfl, by omega, Below.refl _ _⟩
            case round =>
              obtain ⟨k, s2, hk, rfl, rfl, hE, hz, hB⟩ := hrel
              have HBk := Lib.hid hB
              have HXk := Lib.hid (HX3.out.mono hB)
              have HBw := Lib.hid (HB3.out.trans (hB.mono HB3.out.size))
              have c10 : wr.cell? ⟨w.heap.size, 10, none⟩ = some (.slice p.pa np p.pk) := HC10.out ▸ hB.cell (p := ⟨w.heap.size, 10, none⟩) HX3.out.lt
              have hlx := HXk.out.lt
              by_cases hlt : k < np
              · obtain ⟨t, ht⟩ := mem_at (l := p.prts) (k := k) (by rw [Hnp.out]; exact hlt)
                have htp := HRp.out.po t (List.mem_of_getElem? ht)
                obtain ⟨b, o, hba, hb, hc⟩ := (HAp.out wr HBw.out).prts (by rw [Hnp.out]; omega)
                rw [hba] at c10
                have c0 : wr.cell? ⟨b, o + k, none⟩ = some (.int .i64 t) := by
                  have h9 := hc k t ht 0 (by decide)
                  rw [Nat.mul_one, Nat.add_zero] at h9
                  exact h9
                have hnx := fold_next ht poS s'
                rw [← hE] at hnx
                unfold poS at hnx
                obtain ⟨a1, hxa1⟩ : ∃ zz, nuB ⟨#[112, 111, 114, 116]⟩ t = zz := ⟨_, rfl⟩
                have zxa1 := nuB_size (nm := ⟨#[112, 111, 114, 116]⟩) (n := t) (by decide) htp.1 (by have := htp.2; omega)
                have HPa1 := Lib.hid (fun V => show Calls Tryz.prog 63 #[.string ⟨#[112, 111, 114, 116]⟩, .int .i64 t] V fun e w' => e = .returned (.string a1) ∧ Below V.heap.size V w' by rw [← hxa1]; exact number7_any ⟨#[112, 111, 114, 116]⟩ t V (by decide) htp.1 (by have := htp.2; omega))
                rw [hxa1] at zxa1
                rw [hxa1] at hnx
                obtain ⟨u1, eu1, zu1, ru1⟩ := cat_step s2 a1 (1100000 + k * 200) 200 hz zxa1 (by omega)
                rw [← eu1] at hnx
                have HNx := Lib.hid hnx
                clear hE hB ht hc hba hnx hxa1 eu1
                go_wp2_with (go_at_call 63; (with_reducible refine (HPa1.out _).mono ?_); rintro e w7 ⟨rfl, hb⟩; have HB7 := Lib.hid (HBk.out.trans (hb.mono HBk.out.size)); clear hb)
                go_roundw
                case rel => exact ⟨k + 1, u1, by omega, by go_num, rfl, HNx.out.symm, by omega, HB7.out⟩
                case measure => simp [intOf]; omega
              · obtain rfl : k = np := by omega
                have HE := Lib.hid (show p1B p = s2 by unfold p1B; rw [HE2.out, hE, List.take_of_length_le (by rw [Hnp.out]; exact Nat.le_refl _)])
                have hzs2 : s2.size ≤ 1200000 := by omega
                clear hE hB hz hk HBk HE2 Hnp HC10 hnp16 hzs
                go_upto_region 26 with (fail)
                clear c10
                have hv : r1B p = ((p1B p ++ nuB ⟨#[115, 112, 114, 101, 97, 100]⟩ p.sw) ++ prB ⟨#[111, 118, 101, 114]⟩ p.spds) ++ nuB ⟨#[114, 97, 110, 107]⟩ p.rk := rfl
                have hL3 := (lightL_iff _).1 HLt.out.l3
                obtain ⟨a1, hxa1⟩ : ∃ zz, nuB ⟨#[115, 112, 114, 101, 97, 100]⟩ p.sw = zz := ⟨_, rfl⟩
                have zxa1 := nuB_size (nm := ⟨#[115, 112, 114, 101, 97, 100]⟩) (n := p.sw) (by decide) HRp.out.sw.1 (by have := HRp.out.sw.2; omega)
                have HPa1 := Lib.hid (fun V => show Calls Tryz.prog 63 #[.string ⟨#[115, 112, 114, 101, 97, 100]⟩, .int .i64 p.sw] V fun e w' => e = .returned (.string a1) ∧ Below V.heap.size V w' by rw [← hxa1]; exact number7_any ⟨#[115, 112, 114, 101, 97, 100]⟩ p.sw V (by decide) HRp.out.sw.1 (by have := HRp.out.sw.2; omega))
                rw [hxa1] at zxa1
                obtain ⟨y1, hxy1⟩ : ∃ zz, prB ⟨#[111, 118, 101, 114]⟩ p.spds = zz := ⟨_, rfl⟩
                have zxy1 := prB_size (nm := ⟨#[111, 118, 101, 114]⟩) (l := p.spds) hL3.1 (by decide) hL3.2
                have HPy1 := Lib.hid (fun V (hV : Below w.heap.size w V) => show Calls Tryz.prog 59 #[.string ⟨#[111, 118, 101, 114]⟩, .slice p.da p.spds.length p.dk] V fun e w' => e = .returned (.string y1) ∧ Below V.heap.size V w' from (pairs_any ⟨#[111, 118, 101, 114]⟩ _ _ p.spds V ((HAp.out V hV).spds) hL3.1 (by decide) hL3.2).mono fun e w' h => ⟨by rw [← hxy1]; exact h.1.1, h.2⟩)
                rw [hxy1] at zxy1
                obtain ⟨a3, hxa3⟩ : ∃ zz, nuB ⟨#[114, 97, 110, 107]⟩ p.rk = zz := ⟨_, rfl⟩
                have zxa3 := nuB_size (nm := ⟨#[114, 97, 110, 107]⟩) (n := p.rk) (by decide) HRp.out.rk.1 (by have := HRp.out.rk.2; omega)
                have HPa3 := Lib.hid (fun V => show Calls Tryz.prog 63 #[.string ⟨#[114, 97, 110, 107]⟩, .int .i64 p.rk] V fun e w' => e = .returned (.string a3) ∧ Below V.heap.size V w' by rw [← hxa3]; exact number7_any ⟨#[114, 97, 110, 107]⟩ p.rk V (by decide) HRp.out.rk.1 (by have := HRp.out.rk.2; omega))
                rw [hxa3] at zxa3
                rw [HE.out, hxa1, hxy1, hxa3] at hv
                obtain ⟨u1, eu1, zu1, ru1⟩ := cat_step s2 a1 1200000 200 hzs2 zxa1 (by omega)
                obtain ⟨u2, eu2, zu2, ru2⟩ := cat_step u1 y1 (1200000 + 200) 40000 zu1 zxy1 (by omega)
                obtain ⟨u3, eu3, zu3, ru3⟩ := cat_step u2 a3 (1200000 + 200 + 40000) 200 zu2 zxa3 (by omega)
                rw [← eu1, ← eu2, ← eu3] at hv
                have HV := Lib.hid hv
                have hz3 : u3.size ≤ 1300000 := by omega
                have c9 : wr.cell? ⟨w.heap.size, 13, none⟩ = some (.slice p.da p.spds.length p.dk) := HXk.out.cell 13
                have c14 : wr.cell? ⟨w.heap.size, 14, none⟩ = some (.int .i64 p.sw) := HXk.out.cell 14
                have c15 : wr.cell? ⟨w.heap.size, 15, none⟩ = some (.int .i64 p.rk) := HXk.out.cell 15
                clear hv hL3 hxa1 hxy1 hxa3 zxa1 zxy1 zxa3 eu1 eu2 eu3 zu1 zu2 zu3 HE
                have hcH := held_cell
                refine region_rel (by kernel_rfl) (by kernel_rfl) ?_
                repeat
                  ((with_reducible refine relStep (fun K hK => ?_))
                   (have HK := Lib.hid hK)
                   clear hK
                   (apply relInl
                    · intro r n hf
                      have Hf := Lib.hid hf
                      clear hf
                      (first
                        | (fail)
                        | (unfold relAt
                           go_simp
                           (first | (refine relUpon_val ?_ (Below.refl _ _); exact rfl) | exact rfl | (refine relUpon_enter ?_; (first | (go_at_call 63; (with_reducible refine (HPa1.out _).mono ?_); rintro e w9 ⟨rfl, hb⟩; exact ⟨⟨_, rfl, rfl⟩, hb⟩) | (go_at_call 63; (with_reducible refine (HPa3.out _).mono ?_); rintro e w9 ⟨rfl, hb⟩; exact ⟨⟨_, rfl, rfl⟩, hb⟩) | (go_at_call 59; (with_reducible refine (HPy1.out _ (HBw.out.trans (n.below.mono HBw.out.size))).mono ?_); rintro e w9 ⟨rfl, hb⟩; exact ⟨⟨_, rfl, rfl⟩, hb⟩))))))
                    (simp only [Act.put, List.setIfInBounds_toArray, List.set_cons_zero, List.set_cons_succ])
                    (with_reducible refine HK.out _ _ ?_)
                    clear HK K))
                refine relNil ?_
                intro r5 n5 hx5
                clear hcH
                (try simp only [List.nil_append, List.cons_append, List.mem_cons, List.not_mem_nil, or_false, forall_eq_or_imp, forall_eq, false_implies, implies_true] at hx5)
                obtain ⟨w5, hb5⟩ := n5
                (try dsimp only)
                obtain ⟨hc5, hf5⟩ := bcell hb5
                have hz5 := hb5.size
                (try simp at hz5)
                have HB5 := Lib.hid (HBw.out.trans (hb5.mono HBw.out.size))
                have HX5 := Lib.hid (HXk.out.mono hb5)
                clear hb5 hc5 hf5 hz5 c9 c14 c15 hlx HBw HXk HB3 HX3 HPa1 HPa3 HPy1
                have c16 : w5.cell? ⟨w.heap.size, 16, none⟩ = some (.string p.ow) := HX5.out.cell 16
                have hlx := HX5.out.lt
                by_cases how : p.ow = emp
                · have q1 := (emp_yes how).2.2
                  have HO1 := Lib.hid (show o1B p = u3 by unfold o1B; rw [if_pos how]; exact HV.out)
                  clear how HV
                  have hz4 : u3.size ≤ 2000000 := by omega
                  go_upto_region 29 with (fail)
                  clear c16 hlx q1
                  have hv : f1B p = ((((o1B p ++ flB ⟨#[119, 105, 100, 101]⟩ p.wd) ++ flB ⟨#[100, 97, 101, 109, 111, 110]⟩ p.dm) ++ flB ⟨#[112, 105, 110, 110, 101, 100]⟩ p.pn) ++ flB ⟨#[108, 111, 99, 97, 108]⟩ p.lc) ++ ⟨#[41]⟩ := rfl
                  rw [HO1.out] at hv
                  obtain ⟨g1, hxg1⟩ : ∃ t, flB ⟨#[119, 105, 100, 101]⟩ p.wd = t := ⟨_, rfl⟩
                  have zxg1 := flB_size (nm := ⟨#[119, 105, 100, 101]⟩) (b := p.wd) (by decide)
                  have HPg1 := Lib.hid (fun V => show Calls Tryz.prog 64 #[.string ⟨#[119, 105, 100, 101]⟩, .bool p.wd] V fun e w' => e = .returned (.string g1) ∧ Below V.heap.size V w' by rw [← hxg1]; exact flag_any ⟨#[119, 105, 100, 101]⟩ p.wd V (by decide))
                  rw [hxg1] at zxg1 hv
                  obtain ⟨g2, hxg2⟩ : ∃ t, flB ⟨#[100, 97, 101, 109, 111, 110]⟩ p.dm = t := ⟨_, rfl⟩
                  have zxg2 := flB_size (nm := ⟨#[100, 97, 101, 109, 111, 110]⟩) (b := p.dm) (by decide)
                  have HPg2 := Lib.hid (fun V => show Calls Tryz.prog 64 #[.string ⟨#[100, 97, 101, 109, 111, 110]⟩, .bool p.dm] V fun e w' => e = .returned (.string g2) ∧ Below V.heap.size V w' by rw [← hxg2]; exact flag_any ⟨#[100, 97, 101, 109, 111, 110]⟩ p.dm V (by decide))
                  rw [hxg2] at zxg2 hv
                  obtain ⟨g3, hxg3⟩ : ∃ t, flB ⟨#[112, 105, 110, 110, 101, 100]⟩ p.pn = t := ⟨_, rfl⟩
                  have zxg3 := flB_size (nm := ⟨#[112, 105, 110, 110, 101, 100]⟩) (b := p.pn) (by decide)
                  have HPg3 := Lib.hid (fun V => show Calls Tryz.prog 64 #[.string ⟨#[112, 105, 110, 110, 101, 100]⟩, .bool p.pn] V fun e w' => e = .returned (.string g3) ∧ Below V.heap.size V w' by rw [← hxg3]; exact flag_any ⟨#[112, 105, 110, 110, 101, 100]⟩ p.pn V (by decide))
                  rw [hxg3] at zxg3 hv
                  obtain ⟨g4, hxg4⟩ : ∃ t, flB ⟨#[108, 111, 99, 97, 108]⟩ p.lc = t := ⟨_, rfl⟩
                  have zxg4 := flB_size (nm := ⟨#[108, 111, 99, 97, 108]⟩) (b := p.lc) (by decide)
                  have HPg4 := Lib.hid (fun V => show Calls Tryz.prog 64 #[.string ⟨#[108, 111, 99, 97, 108]⟩, .bool p.lc] V fun e w' => e = .returned (.string g4) ∧ Below V.heap.size V w' by rw [← hxg4]; exact flag_any ⟨#[108, 111, 99, 97, 108]⟩ p.lc V (by decide))
                  rw [hxg4] at zxg4 hv
                  obtain ⟨k1, ek1, zk1, rk1⟩ := cat_step u3 g1 2000000 200 hz4 zxg1 (by omega)
                  obtain ⟨k2, ek2, zk2, rk2⟩ := cat_step k1 g2 (2000000 + 200) 200 zk1 zxg2 (by omega)
                  obtain ⟨k3, ek3, zk3, rk3⟩ := cat_step k2 g3 (2000000 + 200 + 200) 200 zk2 zxg3 (by omega)
                  obtain ⟨k4, ek4, zk4, rk4⟩ := cat_step k3 g4 (2000000 + 200 + 200 + 200) 200 zk3 zxg4 (by omega)
                  obtain ⟨k5, ek5, zk5, rk5⟩ := cat_step k4 ⟨#[41]⟩ (2000000 + 200 + 200 + 200 + 200) 1 zk4 (by decide) (by omega)
                  rw [← ek1, ← ek2, ← ek3, ← ek4, ← ek5] at hv
                  have HVf := Lib.hid (show showP p = k5 by rw [HR.out]; exact hv)
                  clear hv ek1 ek2 ek3 ek4 ek5 zk1 zk2 zk3 zk4 zk5 hxg1 hxg2 hxg3 hxg4 zxg1 zxg2 zxg3 zxg4
                  have f8 : w5.cell? ⟨w.heap.size, 12, none⟩ = some (.bool p.wd) := HX5.out.cell 12
                  have f13 : w5.cell? ⟨w.heap.size, 17, none⟩ = some (.bool p.dm) := HX5.out.cell 17
                  have f14 : w5.cell? ⟨w.heap.size, 18, none⟩ = some (.bool p.pn) := HX5.out.cell 18
                  have f15 : w5.cell? ⟨w.heap.size, 19, none⟩ = some (.bool p.lc) := HX5.out.cell 19
                  have hlx := HX5.out.lt
                  have hcH := held_cell
                  refine region_rel (by kernel_rfl) (by kernel_rfl) ?_
                  repeat
                    ((with_reducible refine relStep (fun K hK => ?_))
                     (have HK := Lib.hid hK)
                     clear hK
                     (apply relInl
                      · intro r n hf
                        have Hf := Lib.hid hf
                        clear hf
                        (first
                          | (fail)
                          | (unfold relAt
                             go_simp
                             (first | (refine relUpon_val ?_ (Below.refl _ _); exact rfl) | exact rfl | (refine relUpon_enter ?_; (first | (go_at_call 64; (with_reducible refine (HPg1.out _).mono ?_); rintro e w9 ⟨rfl, hb⟩; exact ⟨⟨_, rfl, rfl⟩, hb⟩) | (go_at_call 64; (with_reducible refine (HPg2.out _).mono ?_); rintro e w9 ⟨rfl, hb⟩; exact ⟨⟨_, rfl, rfl⟩, hb⟩) | (go_at_call 64; (with_reducible refine (HPg3.out _).mono ?_); rintro e w9 ⟨rfl, hb⟩; exact ⟨⟨_, rfl, rfl⟩, hb⟩) | (go_at_call 64; (with_reducible refine (HPg4.out _).mono ?_); rintro e w9 ⟨rfl, hb⟩; exact ⟨⟨_, rfl, rfl⟩, hb⟩))))))
                      (simp only [Act.put, List.setIfInBounds_toArray, List.set_cons_zero, List.set_cons_succ])
                      (with_reducible refine HK.out _ _ ?_)
                      clear HK K))
                  refine relNil ?_
                  intro r7 n7 hx7
                  clear hcH
                  (try simp only [List.nil_append, List.cons_append, List.mem_cons, List.not_mem_nil, or_false, forall_eq_or_imp, forall_eq, false_implies, implies_true] at hx7)
                  obtain ⟨w7, hb7⟩ := n7
                  (try dsimp only)
                  obtain ⟨hc7, hf7⟩ := bcell hb7
                  have hz7 := hb7.size
                  (try simp at hz7)
                  have HB7 := Lib.hid (HB5.out.trans (hb7.mono HB5.out.size))
                  clear hb7 hc7 hf7 hz7 f8 f13 f14 f15
                  go_wp2
                  go_ret
                  exact ⟨by rw [HVf.out]; first | done | rfl, HB7.out⟩
                · have q1 := (emp_no how).2.2
                  have hv : o1B p = ((r1B p ++ ⟨#[32, 40, 111, 119, 110, 101, 114, 32]⟩) ++ p.ow) ++ ⟨#[41]⟩ := if_neg how
                  rw [HV.out] at hv
                  obtain ⟨t1, et1, zt1, rt1⟩ := cat_step u3 ⟨#[32, 40, 111, 119, 110, 101, 114, 32]⟩ 1300000 20 hz3 (by decide) (by omega)
                  obtain ⟨t2, et2, zt2, rt2⟩ := cat_step t1 p.ow (1300000 + 20) 300 zt1 HLt.out.ow (by omega)
                  obtain ⟨t3, et3, zt3, rt3⟩ := cat_step t2 ⟨#[41]⟩ (1300000 + 20 + 300) 1 zt2 (by decide) (by omega)
                  rw [← et1, ← et2, ← et3] at hv
                  have HO1 := Lib.hid hv
                  have hz4 : t3.size ≤ 2000000 := by omega
                  clear how HV hv et1 et2 et3 zt1 zt2 zt3
                  go_upto_region 29 with (fail)
                  clear c16 hlx q1
                  have hv : f1B p = ((((o1B p ++ flB ⟨#[119, 105, 100, 101]⟩ p.wd) ++ flB ⟨#[100, 97, 101, 109, 111, 110]⟩ p.dm) ++ flB ⟨#[112, 105, 110, 110, 101, 100]⟩ p.pn) ++ flB ⟨#[108, 111, 99, 97, 108]⟩ p.lc) ++ ⟨#[41]⟩ := rfl
                  rw [HO1.out] at hv
                  obtain ⟨g1, hxg1⟩ : ∃ t, flB ⟨#[119, 105, 100, 101]⟩ p.wd = t := ⟨_, rfl⟩
                  have zxg1 := flB_size (nm := ⟨#[119, 105, 100, 101]⟩) (b := p.wd) (by decide)
                  have HPg1 := Lib.hid (fun V => show Calls Tryz.prog 64 #[.string ⟨#[119, 105, 100, 101]⟩, .bool p.wd] V fun e w' => e = .returned (.string g1) ∧ Below V.heap.size V w' by rw [← hxg1]; exact flag_any ⟨#[119, 105, 100, 101]⟩ p.wd V (by decide))
                  rw [hxg1] at zxg1 hv
                  obtain ⟨g2, hxg2⟩ : ∃ t, flB ⟨#[100, 97, 101, 109, 111, 110]⟩ p.dm = t := ⟨_, rfl⟩
                  have zxg2 := flB_size (nm := ⟨#[100, 97, 101, 109, 111, 110]⟩) (b := p.dm) (by decide)
                  have HPg2 := Lib.hid (fun V => show Calls Tryz.prog 64 #[.string ⟨#[100, 97, 101, 109, 111, 110]⟩, .bool p.dm] V fun e w' => e = .returned (.string g2) ∧ Below V.heap.size V w' by rw [← hxg2]; exact flag_any ⟨#[100, 97, 101, 109, 111, 110]⟩ p.dm V (by decide))
                  rw [hxg2] at zxg2 hv
                  obtain ⟨g3, hxg3⟩ : ∃ t, flB ⟨#[112, 105, 110, 110, 101, 100]⟩ p.pn = t := ⟨_, rfl⟩
                  have zxg3 := flB_size (nm := ⟨#[112, 105, 110, 110, 101, 100]⟩) (b := p.pn) (by decide)
                  have HPg3 := Lib.hid (fun V => show Calls Tryz.prog 64 #[.string ⟨#[112, 105, 110, 110, 101, 100]⟩, .bool p.pn] V fun e w' => e = .returned (.string g3) ∧ Below V.heap.size V w' by rw [← hxg3]; exact flag_any ⟨#[112, 105, 110, 110, 101, 100]⟩ p.pn V (by decide))
                  rw [hxg3] at zxg3 hv
                  obtain ⟨g4, hxg4⟩ : ∃ t, flB ⟨#[108, 111, 99, 97, 108]⟩ p.lc = t := ⟨_, rfl⟩
                  have zxg4 := flB_size (nm := ⟨#[108, 111, 99, 97, 108]⟩) (b := p.lc) (by decide)
                  have HPg4 := Lib.hid (fun V => show Calls Tryz.prog 64 #[.string ⟨#[108, 111, 99, 97, 108]⟩, .bool p.lc] V fun e w' => e = .returned (.string g4) ∧ Below V.heap.size V w' by rw [← hxg4]; exact flag_any ⟨#[108, 111, 99, 97, 108]⟩ p.lc V (by decide))
                  rw [hxg4] at zxg4 hv
                  obtain ⟨k1, ek1, zk1, rk1⟩ := cat_step t3 g1 2000000 200 hz4 zxg1 (by omega)
                  obtain ⟨k2, ek2, zk2, rk2⟩ := cat_step k1 g2 (2000000 + 200) 200 zk1 zxg2 (by omega)
                  obtain ⟨k3, ek3, zk3, rk3⟩ := cat_step k2 g3 (2000000 + 200 + 200) 200 zk2 zxg3 (by omega)
                  obtain ⟨k4, ek4, zk4, rk4⟩ := cat_step k3 g4 (2000000 + 200 + 200 + 200) 200 zk3 zxg4 (by omega)
                  obtain ⟨k5, ek5, zk5, rk5⟩ := cat_step k4 ⟨#[41]⟩ (2000000 + 200 + 200 + 200 + 200) 1 zk4 (by decide) (by omega)
                  rw [← ek1, ← ek2, ← ek3, ← ek4, ← ek5] at hv
                  have HVf := Lib.hid (show showP p = k5 by rw [HR.out]; exact hv)
                  clear hv ek1 ek2 ek3 ek4 ek5 zk1 zk2 zk3 zk4 zk5 hxg1 hxg2 hxg3 hxg4 zxg1 zxg2 zxg3 zxg4
                  have f8 : w5.cell? ⟨w.heap.size, 12, none⟩ = some (.bool p.wd) := HX5.out.cell 12
                  have f13 : w5.cell? ⟨w.heap.size, 17, none⟩ = some (.bool p.dm) := HX5.out.cell 17
                  have f14 : w5.cell? ⟨w.heap.size, 18, none⟩ = some (.bool p.pn) := HX5.out.cell 18
                  have f15 : w5.cell? ⟨w.heap.size, 19, none⟩ = some (.bool p.lc) := HX5.out.cell 19
                  have hlx := HX5.out.lt
                  have hcH := held_cell
                  refine region_rel (by kernel_rfl) (by kernel_rfl) ?_
                  repeat
                    ((with_reducible refine relStep (fun K hK => ?_))
                     (have HK := Lib.hid hK)
                     clear hK
                     (apply relInl
                      · intro r n hf
                        have Hf := Lib.hid hf
                        clear hf
                        (first
                          | (fail)
                          | (unfold relAt
                             go_simp
                             (first | (refine relUpon_val ?_ (Below.refl _ _); exact rfl) | exact rfl | (refine relUpon_enter ?_; (first | (go_at_call 64; (with_reducible refine (HPg1.out _).mono ?_); rintro e w9 ⟨rfl, hb⟩; exact ⟨⟨_, rfl, rfl⟩, hb⟩) | (go_at_call 64; (with_reducible refine (HPg2.out _).mono ?_); rintro e w9 ⟨rfl, hb⟩; exact ⟨⟨_, rfl, rfl⟩, hb⟩) | (go_at_call 64; (with_reducible refine (HPg3.out _).mono ?_); rintro e w9 ⟨rfl, hb⟩; exact ⟨⟨_, rfl, rfl⟩, hb⟩) | (go_at_call 64; (with_reducible refine (HPg4.out _).mono ?_); rintro e w9 ⟨rfl, hb⟩; exact ⟨⟨_, rfl, rfl⟩, hb⟩))))))
                      (simp only [Act.put, List.setIfInBounds_toArray, List.set_cons_zero, List.set_cons_succ])
                      (with_reducible refine HK.out _ _ ?_)
                      clear HK K))
                  refine relNil ?_
                  intro r7 n7 hx7
                  clear hcH
                  (try simp only [List.nil_append, List.cons_append, List.mem_cons, List.not_mem_nil, or_false, forall_eq_or_imp, forall_eq, false_implies, implies_true] at hx7)
                  obtain ⟨w7, hb7⟩ := n7
                  (try dsimp only)
                  obtain ⟨hc7, hf7⟩ := bcell hb7
                  have hz7 := hb7.size
                  (try simp at hz7)
                  have HB7 := Lib.hid (HB5.out.trans (hb7.mono HB5.out.size))
                  clear hb7 hc7 hf7 hz7 f8 f13 f14 f15
                  go_wp2
                  go_ret
                  exact ⟨by rw [HVf.out]; first | done | rfl, HB7.out⟩
end Go.Proofs.YtccplljbljpjpaaGreatDoor
