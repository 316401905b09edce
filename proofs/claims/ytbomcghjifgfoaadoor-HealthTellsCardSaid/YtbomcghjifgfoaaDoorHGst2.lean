/-
  The contracts of health.Guests and triremeref29.Guests.
-/
import Derived.Test.YtbomcghjifgfoaaDoorHGst
namespace Go.Proofs.YtbomcghjifgfoaaDoor
open Go.RowKit
set_option linter.unusedVariables false

theorem OwnM.parts {M : Mac} {base : Nat} {v : Value} {w : World} (h : OwnM M base v w) : ∃ m : Mac, v = .agg #[.string (m).nm, .string (m).gp, .int .i64 (m).r0, .int .i64 (m).r1, .int .i64 (m).r2, .int .i64 (m).r3, .int .i64 (m).r4, .slice (m).la (m).labs.length (m).lk, .slice (m).ta (m).tnts.length (m).tk, .bool (m).rd] ∧ Alike m M ∧ MOwn base m w := by
  obtain ⟨vl, vt, rfl, o1, o2⟩ := h
  obtain ⟨sl, kl, rfl, _⟩ := own_rows kcs_len o1 (by decide)
  obtain ⟨st, kt, rfl, _⟩ := own_rows tcs_len o2 (by decide)
  exact ⟨{ M with la := sl, lk := kl, ta := st, tk := kt }, rfl, ⟨rfl, rfl, rfl, rfl, rfl, rfl, rfl, rfl, rfl, rfl⟩, o1, o2⟩
theorem guests_mac {gs : List Gp} (hI : ∀ g ∈ gs, g.like.labs.length ≤ 40 ∧ g.like.tnts.length ≤ 40) : ∀ (l : List Ins), ∀ m ∈ guestsV gs l, m.labs.length ≤ 40 ∧ m.tnts.length ≤ 40
  | [], m, h => by cases h
  | x :: l, m, h => by
    unfold guestsV at h
    rw [List.flatMap_cons, List.mem_append] at h
    rcases h with h | h
    · unfold guest1 at h
      split at h
      · cases h
      · rename_i g hg
        split at h
        · rw [List.mem_singleton.1 h]
          have h2 := hI g (List.mem_of_find?_eq_some hg)
          exact grpM_len h2.1 h2.2
        · cases h
    · exact guests_mac hI l m h
theorem alike_len {a b : List Mac} (h : AlikeL a b) (hb : ∀ m ∈ b, m.labs.length ≤ 40 ∧ m.tnts.length ≤ 40) : ∀ m ∈ a, m.labs.length ≤ maxLen ∧ m.tnts.length ≤ maxLen := fun m hm => by
  obtain ⟨i, hi⟩ := List.mem_iff_getElem?.1 hm
  obtain ⟨y, hy⟩ := mem_at (l := b) (k := i) (by have := lt_at hi; rw [← h.1]; exact this)
  have ha := h.2 i m y hi hy
  have h2 := hb y (List.mem_of_getElem? hy)
  rw [ha.labs, ha.tnts]
  unfold maxLen
  omega

set_option maxRecDepth 100000 in
set_option maxHeartbeats 8000000 in
theorem guests_any (a c : Option Addr) (ka kc : Nat) (gs : List Gp) (xs : List Ins) (w : World) (hT : Tab10 w) (hG : GpL w a gs) (hI : ∀ g ∈ gs, MacIn w g.like) (hL : lightGs gs = true) (hF : InsL w c xs) (hm : xs.length ≤ 1000000) (hnm : ∀ x ∈ xs, x.nm.size ≤ 400) :
    Calls Tryd.prog 20 #[.slice a gs.length ka, .slice c xs.length kc] w (Gives w (fun v w' => ∃ (ms : List Mac) (ad : Option Addr) (k : Nat), v = .slice ad ms.length k ∧ AlikeL ms (guestsV gs xs) ∧ MacL w' ad ms ∧ ∀ m ∈ ms, MacAt w' m)) := by
  have hgl := ((lightGs_iff gs).1 hL)
  have HIg := Lib.hid (show ∀ g ∈ gs, MacIn w g.like ∧ g.nm.size ≤ 300 ∧ g.like.labs.length ≤ 40 ∧ g.like.tnts.length ≤ 40 from fun g hg => by
    have h2 := hgl.2 g hg
    refine ⟨hI g hg, h2.1, ?_⟩
    have h := h2.2
    unfold lightM at h
    simp only [Bool.and_eq_true, decide_eq_true_eq] at h
    refine ⟨((lightL_iff _).1 h.1.2).1, ?_⟩
    have h2 := h.2
    unfold lightB at h2
    rw [Bool.and_eq_true, decide_eq_true_eq] at h2
    exact h2.1.2)
  have HT := Lib.hid hT
  have HF := Lib.hid hF
  have HG := Lib.hid hG
  have Hnm := Lib.hid hnm
  have hgm := hgl.1
  clear hT hF hG hI hL hgl hnm
  obtain ⟨i0, hi, hz0, hz1, hz2⟩ := info_parts Tryd.info44
  have Hi := Lib.hid hi
  have Hz0 := Lib.hid hz0
  have Hz1 := Lib.hid hz1
  have Hz2 := Lib.hid hz2
  clear hi hz0 hz1 hz2
  obtain ⟨n, hln⟩ : ∃ n, xs.length = n := ⟨_, rfl⟩
  rw [hln] at hm ⊢
  have Hln := Lib.hid hln
  clear hln
  obtain ⟨p, hp⟩ : ∃ n, gs.length = n := ⟨_, rfl⟩
  have Hp := Lib.hid hp
  have HFi := Lib.hid (fun (key : ByteArray) (V : World) (hV : Below w.heap.size w V) => find_any a gs ka key V (HG.out.mono hV) (show gs.length ≤ maxLen by unfold maxLen; omega))
  rw [hp] at hgm HFi
  try rw [hp]
  clear hp
  go_enter Tryd.func20, Tryd.ntmps20
  go_wp2
  obtain ⟨W, hW⟩ : ∃ W, W = w := ⟨_, rfl⟩
  have HW := Lib.hid (show Below w.heap.size w W by rw [hW]; (repeat' (first | with_reducible exact Below.refl _ _ | with_reducible assumption | with_reducible refine Below.drew ?_ | with_reducible refine below_drewN' ?_ _ | with_reducible refine Below.alloc ?_ ?_ _ | with_reducible refine Below.setCell ?_ ?_ _ | with_reducible refine below_step (by assumption) ?_ ?_ | omega | (simp; done) | (simp; omega))))
  have hWz : w.heap.size ≤ W.heap.size := HW.out.size
  have HFW := Lib.hid (HF.out.mono HW.out)
  (try rw [← hW])
  have HGW := Lib.hid (HG.out.mono HW.out)
  clear hW
  go_loopw [5, 6, 7, 8, 11] (fun v _ _ _ i wr => ∃ (k : Nat) (ms : List Mac), k ≤ n ∧ i = .int .i64 k ∧ AlikeL ms (guestsV gs (xs.take k)) ∧ (∀ m ∈ ms, MOwn W.heap.size m wr) ∧ wr.ownsRow W.heap.size 44 10 v ms.length (ms.flatMap mrow) ∧ Below W.heap.size W wr) (fun _ _ _ _ i _ => n - (intOf i).toNat)
  case atStart => exact ⟨0, [], by omega, rfl, AlikeL.nil, (fun m hm => by cases hm), World.ownsRow_nil _ _ _ _, by (repeat' (first | with_reducible exact Below.refl _ _ | with_reducible assumption | with_reducible refine Below.drew ?_ | with_reducible refine below_drewN' ?_ _ | with_reducible refine Below.alloc ?_ ?_ _ | with_reducible refine Below.setCell ?_ ?_ _ | with_reducible refine below_step (by assumption) ?_ ?_ | omega | (simp; done) | (simp; omega)))⟩
  case round =>
    obtain ⟨k, ms, hk, rfl, hal, hmo, hown, hB⟩ := hrel
    obtain ⟨hcB, hfB⟩ := bcell hB
    have hbz := hB.size
    have Hown := Lib.hid hown
    have HB := Lib.hid hB
    have Hal := Lib.hid hal
    have Hmo := Lib.hid hmo
    have HXr := Lib.hid (HW.out.trans (hB.mono HW.out.size))
    clear hown hal hmo
    by_cases hlt : k < n
    · skip
      obtain ⟨x, hx⟩ := mem_at (l := xs) (k := k) (by rw [Hln.out]; exact hlt)
      have Hx := Lib.hid hx
      obtain ⟨b, off, rfl, hb, hc⟩ := HFW.out (by rw [Hln.out]; omega)
      have hbw : b < wr.heap.size := by omega
      obtain ⟨d0, d1, d2, d3, d4⟩ := irow_cells (hc k x hx)
      clear hc hx
      have HFx := HFi.out x.gp
      have hfc := find_cases gs x.gp 0
      have hsn := guests_succ (gs := gs) Hx.out
      have hg1 : guest1 gs x = (match gs.find? (fun g => strB g.nm x.gp) with | none => [] | some g => if 0 < numG g.nm x.nm then [grpM g (numG g.nm x.nm : Int)] else []) := rfl
      obtain ⟨f, hf⟩ : ∃ f, findA gs x.gp 0 = f := ⟨_, rfl⟩
      rw [hf] at HFx hfc
      have HFd := Lib.hid HFx
      clear HFx hf
      rcases hfc with ⟨h1, h2⟩ | ⟨j, g, h1, h2, h3⟩
      · rw [h2] at hg1
        rw [hg1, List.append_nil] at hsn
        have Hsn := Lib.hid hsn
        subst h1
        clear hg1 h2 hsn
        go_wp2_with (go_at_call 33; (with_reducible refine (HFd.out _ HXr.out).mono ?_); rintro e w5 ⟨rfl, hb5⟩; have hz5 := hb5.size; (try simp at hz5))
        go_roundw
        case rel => exact ⟨k + 1, ms, by omega, by go_num, by rw [Hsn.out]; exact Hal.out, (fun m hm => (Hmo.out m hm).kept hb5), own_kept Hown.out hb5, by (repeat' (first | with_reducible exact Below.refl _ _ | with_reducible assumption | with_reducible refine Below.drew ?_ | with_reducible refine below_drewN' ?_ _ | with_reducible refine Below.alloc ?_ ?_ _ | with_reducible refine Below.setCell ?_ ?_ _ | with_reducible refine below_step (by assumption) ?_ ?_ | omega | (simp; done) | (simp; omega)))⟩
        case measure => simp [intOf]; omega
      · rw [h3] at hg1
        simp only at hg1
        have hjl : j < p := by rw [← Hp.out]; exact lt_at h2
        obtain ⟨hgI, hgs, hgl, hgt⟩ := HIg.out g (List.mem_of_getElem? h2)
        have HgI := Lib.hid hgI
        have e1 : f = (j : Int) := by omega
        subst e1
        clear h1 h3
        obtain ⟨bg, og, rfl, hbg, hcg⟩ := HGW.out (by rw [Hp.out]; omega)
        obtain ⟨c0, c1, c2, c3, c4, c5, c6, c7, c8, c9, c10, c11, c12, c13, c14⟩ := grow_cells (hcg j g h2)
        have hbgw : bg < wr.heap.size := by omega
        have HNu := Lib.hid (fun V => number_any g x.nm V hgs)
        have HMa := Lib.hid (fun (q : Nat) V (hV : Below w.heap.size w V) => machine_any g q V (HT.out.mono hV) (HgI.out.mono hV) hgs (by omega) (by omega))
        obtain ⟨q, hq⟩ : ∃ q, numG g.nm x.nm = q := ⟨_, rfl⟩
        rw [hq] at HNu hg1
        clear hcg h2 hgI
        by_cases hq0 : 0 < q
        · rw [if_pos hq0] at hg1
          rw [hg1] at hsn
          have Hsn := Lib.hid hsn
          have hln : ms.length ≤ k := by
            have h1 := guests_len gs (xs.take k)
            have h2 := List.length_take_le k xs
            rw [Hal.out.1]
            omega
          obtain ⟨M, hM⟩ : ∃ M, grpM g (q : Int) = M := ⟨_, rfl⟩
          have HM := HMa.out q
          rw [hM] at HM Hsn
          have HMb := Lib.hid HM
          have k9 : decide ((0 : Int) < (q : Int)) = true := decide_eq_true (by omega)
          clear hg1 hsn HM HMa hM
          go_wp2_with (go_at_call 33; (with_reducible refine (HFd.out _ HXr.out).mono ?_); rintro e w5 ⟨rfl, hb5⟩; obtain ⟨hc5, hf5⟩ := bcell hb5; have hz5 := hb5.size; (try simp at hz5); have z5_0 : b < w5.heap.size := (by omega); have y5_0 : b ≤ w5.heap.size := (by omega); have z5_1 : bg < w5.heap.size := (by omega); have y5_1 : bg ≤ w5.heap.size := (by omega))
          have hcH := held_cell
          refine region_below (by kernel_rfl) (by kernel_rfl) ?_
          repeat
            ((with_reducible refine wpQuiet_step (fun K hK => ?_))
             go_simp
             first
               | ((with_reducible refine hK _ ?_); clear hK K)
               | (apply Exists.intro
                  (with_reducible refine ⟨fun n => ?_, hK _ ?_⟩)
                  ((go_at_call 34; exact held_calls (HNu.out _)))
                  clear hK K))
          with_reducible refine wpQuiet_nil ?_
          intro w6 hw2
          clear hcH
          obtain ⟨⟨_, hb6⟩, rfl⟩ := hw2
          (try dsimp only)
          obtain ⟨hc6, hf6⟩ := bcell hb6
          have hz6 := hb6.size
          (try simp at hz6)
          have z6_0 : b < w6.heap.size := (by omega); have y6_0 : b ≤ w6.heap.size := (by omega); have z6_1 : bg < w6.heap.size := (by omega); have y6_1 : bg ≤ w6.heap.size := (by omega)
          have HX6 := Lib.hid (show Below wr.heap.size wr w6 by (repeat' (first | with_reducible exact Below.refl _ _ | with_reducible assumption | with_reducible refine Below.drew ?_ | with_reducible refine below_drewN' ?_ _ | with_reducible refine Below.alloc ?_ ?_ _ | with_reducible refine Below.setCell ?_ ?_ _ | with_reducible refine below_step (by assumption) ?_ ?_ | omega | (simp; done) | (simp; omega))))
          have HXw := Lib.hid (HXr.out.trans (HX6.out.mono HXr.out.size))
          go_wp2_with (first
            | (go_at_call 35; (with_reducible refine (HMb.out _ HXw.out).mono ?_); rintro e w7 ⟨⟨v, rfl, hO⟩, hb7⟩; obtain ⟨m, rfl, ham, hmm⟩ := OwnM.parts hO; have Ham := Lib.hid ham; have Hmm := Lib.hid hmm; clear hO ham hmm; have HX7 := Lib.hid (HX6.out.trans (hb7.mono HX6.out.size)); have hz7 := HX7.out.size; have HOx := Lib.hid (own_kept Hown.out HX7.out); have HBx := Lib.hid (HB.out.trans (HX7.out.mono HB.out.size)); have hbx := HBx.out.size; have hc3 : ms.length + 1 ≤ maxLen := (by unfold maxLen; omega); have hc4 : (ms.length + 1) * 128 ≤ 140737488355328 := (by omega); have Hrow := Lib.hid (show ms.flatMap mrow ++ mrow m = (ms ++ [m]).flatMap mrow by simp); have Hlen := Lib.hid (show ms.length + 1 = (ms ++ [m]).length by simp))
            | (at_builtin; refine wpList_append_own _ rfl (.tmp 35) (.tmp 42) 22 rfl W.heap.size 44 i0 _ 10 128 Tryd.underlying22 Hi.out Hz0.out Hz1.out Hz2.out rfl (by decide) _ ms.length (ms.flatMap mrow) rfl (HOx.out.alloc _) ⟨w7.heap.size, 0, none⟩ 1 1 (mrow m) rfl rfl (news_at _ _ _) (mrow_one _) hc3 hc4 (le_alloc hbx _) ?_; intro v1 w1 hown1 hgrow1 _; rw [Hrow.out, Hlen.out] at hown1; have hB1 := own_below (HOx.out.alloc _) (HBx.out.alloc hbx _) (le_alloc hbx _) hgrow1; have HO1 := Lib.hid hown1; have HG1 := Lib.hid hgrow1; clear hown1 hgrow1))
          go_roundw
          case rel => exact ⟨k + 1, ms ++ [m], by omega, by go_num, by rw [Hsn.out]; exact Hal.out.snoc Ham.out, (fun x hx => ((show MOwn W.heap.size x w7 from (by
            rcases List.mem_append.1 hx with h | h
            · exact (Hmo.out x h).kept HX7.out
            · rw [List.mem_singleton.1 h]
              exact ⟨OwnL.mono Hmm.out.1 (by have := HX6.out.size; omega), OwnL.mono Hmm.out.2 (by have := HX6.out.size; omega)⟩)).kept (by (repeat' (first | with_reducible exact Below.refl _ _ | with_reducible assumption | with_reducible refine Below.drew ?_ | with_reducible refine below_drewN' ?_ _ | with_reducible refine Below.alloc ?_ ?_ _ | with_reducible refine Below.setCell ?_ ?_ _ | with_reducible refine below_step (by assumption) ?_ ?_ | omega | (simp; done) | (simp; omega))))).grown (HOx.out.alloc _) HG1.out), HO1.out, hB1⟩
          case measure => simp [intOf]; omega
        · have hq1 : q = 0 := by omega
          rw [if_neg hq0] at hg1
          rw [hg1, List.append_nil] at hsn
          have Hsn := Lib.hid hsn
          subst hq1
          clear hg1 hsn hq0 HMa
          go_wp2_with (go_at_call 33; (with_reducible refine (HFd.out _ HXr.out).mono ?_); rintro e w5 ⟨rfl, hb5⟩; obtain ⟨hc5, hf5⟩ := bcell hb5; have hz5 := hb5.size; (try simp at hz5); have z5_0 : b < w5.heap.size := (by omega); have y5_0 : b ≤ w5.heap.size := (by omega); have z5_1 : bg < w5.heap.size := (by omega); have y5_1 : bg ≤ w5.heap.size := (by omega))
          have hcH := held_cell
          refine region_below (by kernel_rfl) (by kernel_rfl) ?_
          repeat
            ((with_reducible refine wpQuiet_step (fun K hK => ?_))
             go_simp
             first
               | ((with_reducible refine hK _ ?_); clear hK K)
               | (apply Exists.intro
                  (with_reducible refine ⟨fun n => ?_, hK _ ?_⟩)
                  ((go_at_call 34; exact held_calls (HNu.out _)))
                  clear hK K))
          with_reducible refine wpQuiet_nil ?_
          intro w6 hw2
          clear hcH
          obtain ⟨⟨_, hb6⟩, rfl⟩ := hw2
          (try dsimp only)
          obtain ⟨hc6, hf6⟩ := bcell hb6
          have hz6 := hb6.size
          (try simp at hz6)
          have HX6 := Lib.hid (show Below wr.heap.size wr w6 by (repeat' (first | with_reducible exact Below.refl _ _ | with_reducible assumption | with_reducible refine Below.drew ?_ | with_reducible refine below_drewN' ?_ _ | with_reducible refine Below.alloc ?_ ?_ _ | with_reducible refine Below.setCell ?_ ?_ _ | with_reducible refine below_step (by assumption) ?_ ?_ | omega | (simp; done) | (simp; omega))))
          go_wp2
          go_roundw
          case rel => exact ⟨k + 1, ms, by omega, by go_num, by rw [Hsn.out]; exact Hal.out, (fun m hm => (Hmo.out m hm).kept HX6.out), own_kept Hown.out HX6.out, by (repeat' (first | with_reducible exact Below.refl _ _ | with_reducible assumption | with_reducible refine Below.drew ?_ | with_reducible refine below_drewN' ?_ _ | with_reducible refine Below.alloc ?_ ?_ _ | with_reducible refine Below.setCell ?_ ?_ _ | with_reducible refine below_step (by assumption) ?_ ?_ | omega | (simp; done) | (simp; omega)))⟩
          case measure => simp [intOf]; omega
    · obtain rfl : k = n := by omega
      have Ht := Lib.hid (show xs.take k = xs by rw [← Hln.out]; exact List.take_length)
      have HR := Lib.hid (show ∀ v, wr.ownsRow W.heap.size 44 10 v ms.length (ms.flatMap mrow) → Gives w (fun v w' => ∃ (ms : List Mac) (ad : Option Addr) (k : Nat), v = .slice ad ms.length k ∧ AlikeL ms (guestsV gs xs) ∧ MacL w' ad ms ∧ ∀ m ∈ ms, MacAt w' m) (.returned v) wr from fun v ho => by
        have ha := Hal.out
        rw [Ht.out] at ha
        have hmx := alike_len ha (guests_mac (fun g hg => (HIg.out g hg).2.2) xs)
        obtain ⟨ad, k9, e9, _, r9⟩ := OwnL.isL mrow_len (by decide) ho
        exact ⟨⟨v, rfl, ms, ad, k9, e9, ha, r9, fun m hm => (Hmo.out m hm).at (hmx m hm).1 (hmx m hm).2⟩, HXr.out⟩)
      go_wp2
      refine bodyPost_ret (by simp [results, Tryd.results20, go_sem]) rfl (HR.out _ Hown.out)
end Go.Proofs.YtbomcghjifgfoaaDoor
