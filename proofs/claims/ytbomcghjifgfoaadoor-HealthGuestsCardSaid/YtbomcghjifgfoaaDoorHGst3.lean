/-
  The contract of triremeref29.Guests.
-/
import Derived.Test.YtbomcghjifgfoaaDoorHGst2
namespace Go.Proofs.YtbomcghjifgfoaaDoor
open Go.RowKit
set_option linter.unusedVariables false

theorem alike_refl (m : Mac) : Alike m m := ⟨rfl, rfl, rfl, rfl, rfl, rfl, rfl, rfl, rfl, rfl⟩
theorem guests_at {w : World} {gs : List Gp} (hI : ∀ g ∈ gs, MacAt w g.like) : ∀ (l : List Ins), ∀ m ∈ guestsV gs l, MacAt w m
  | [], m, h => by cases h
  | x :: l, m, h => by
    unfold guestsV at h
    rw [List.flatMap_cons, List.mem_append] at h
    rcases h with h | h
    · unfold guest1 at h
      split at h
      · cases h
      · rename_i g hg
        split at h
        · rw [List.mem_singleton.1 h]
          exact grpM_at (hI g (List.mem_of_find?_eq_some hg))
        · cases h
    · exact guests_at hI l m h

set_option maxRecDepth 100000 in
set_option maxHeartbeats 8000000 in
theorem refguests_any (a c : Option Addr) (ka kc : Nat) (gs : List Gp) (xs : List Ins) (w : World) (hG : GpL w a gs) (hI : ∀ g ∈ gs, MacIn w g.like) (hL : lightGs gs = true) (hF : InsL w c xs) (hm : xs.length ≤ 1000000) (hnm : ∀ x ∈ xs, x.nm.size ≤ 400) :
    Calls Tryd.prog 21 #[.slice a gs.length ka, .slice c xs.length kc] w (Gives w (fun v w' => ∃ (ms : List Mac) (ad : Option Addr) (k : Nat), v = .slice ad ms.length k ∧ AlikeL ms (guestsV gs xs) ∧ MacL w' ad ms ∧ ∀ m ∈ ms, MacAt w' m)) := by
  have hgl := ((lightGs_iff gs).1 hL)
  have HIg := Lib.hid (show ∀ g ∈ gs, MacIn w g.like ∧ g.nm.size ≤ 300 from fun g hg => ⟨hI g hg, (hgl.2 g hg).1⟩)
  have HF := Lib.hid hF
  have HG := Lib.hid hG
  have Hnm := Lib.hid hnm
  have hgm := hgl.1
  clear hF hG hI hL hgl hnm
  obtain ⟨i0, hi, hz0, hz1, hz2⟩ := info_parts Tryd.info44
  have Hi := Lib.hid hi
  have Hz0 := Lib.hid hz0
  have Hz1 := Lib.hid hz1
  have Hz2 := Lib.hid hz2
  clear hi hz0 hz1 hz2
  obtain ⟨n, hln⟩ : ∃ n, xs.length = n := ⟨_, rfl⟩
  rw [hln] at hm ⊢
  have Hln := Lib.hid hln
  clear hln
  obtain ⟨p, hp⟩ : ∃ n, gs.length = n := ⟨_, rfl⟩
  have Hp := Lib.hid hp
  have HFi := Lib.hid (fun (key : ByteArray) (V : World) (hV : Below w.heap.size w V) => reffind_any a gs ka key V (HG.out.mono hV) (show gs.length ≤ maxLen by unfold maxLen; omega))
  rw [hp] at hgm HFi
  try rw [hp]
  clear hp
  go_enter Tryd.func21, Tryd.ntmps21
  go_wp2
  obtain ⟨W, hW⟩ : ∃ W, W = w := ⟨_, rfl⟩
  have HW := Lib.hid (show Below w.heap.size w W by rw [hW]; (repeat' (first | with_reducible exact Below.refl _ _ | with_reducible assumption | with_reducible refine Below.drew ?_ | with_reducible refine below_drewN' ?_ _ | with_reducible refine Below.alloc ?_ ?_ _ | with_reducible refine Below.setCell ?_ ?_ _ | with_reducible refine below_step (by assumption) ?_ ?_ | omega | (simp; done) | (simp; omega))))
  have hWz : w.heap.size ≤ W.heap.size := HW.out.size
  have HFW := Lib.hid (HF.out.mono HW.out)
  (try rw [← hW])
  have HGW := Lib.hid (HG.out.mono HW.out)
  clear hW
  go_loopw [5, 6, 7, 8] (fun v i _ _ wr => ∃ (k : Nat), k ≤ n ∧ i = .int .i64 k ∧ wr.ownsRow W.heap.size 44 10 v (guestsV gs (xs.take k)).length ((guestsV gs (xs.take k)).flatMap mrow) ∧ Below W.heap.size W wr) (fun _ i _ _ _ => n - (intOf i).toNat)
  case atStart => exact ⟨0, by omega, rfl, World.ownsRow_nil _ _ _ _, by (repeat' (first | with_reducible exact Below.refl _ _ | with_reducible assumption | with_reducible refine Below.drew ?_ | with_reducible refine below_drewN' ?_ _ | with_reducible refine Below.alloc ?_ ?_ _ | with_reducible refine Below.setCell ?_ ?_ _ | with_reducible refine below_step (by assumption) ?_ ?_ | omega | (simp; done) | (simp; omega)))⟩
  case round =>
    obtain ⟨k, hk, rfl, hown, hB⟩ := hrel
    obtain ⟨hcB, hfB⟩ := bcell hB
    have hbz := hB.size
    have Hown := Lib.hid hown
    have HB := Lib.hid hB
    clear hown
    have HXr := Lib.hid (HW.out.trans (hB.mono HW.out.size))
    by_cases hlt : k < n
    · skip
      obtain ⟨x, hx⟩ := mem_at (l := xs) (k := k) (by rw [Hln.out]; exact hlt)
      have Hx := Lib.hid hx
      obtain ⟨b, off, rfl, hb, hc⟩ := HFW.out (by rw [Hln.out]; omega)
      have hbw : b < wr.heap.size := by omega
      obtain ⟨d0, d1, d2, d3, d4⟩ := irow_cells (hc k x hx)
      clear hc hx
      have HFx := HFi.out x.gp
      have hfc := find_cases gs x.gp 0
      have hsn := guests_succ (gs := gs) Hx.out
      have hg1 : guest1 gs x = (match gs.find? (fun g => strB g.nm x.gp) with | none => [] | some g => if 0 < numG g.nm x.nm then [grpM g (numG g.nm x.nm : Int)] else []) := rfl
      have hln : (guestsV gs (xs.take k)).length ≤ k := Nat.le_trans (guests_len gs _) (List.length_take_le _ _)
      have Hsz := Lib.hid (Hnm.out x (List.mem_of_getElem? Hx.out))
      obtain ⟨f, hf⟩ : ∃ f, findA gs x.gp 0 = f := ⟨_, rfl⟩
      rw [hf] at HFx hfc
      have HFd := Lib.hid HFx
      clear HFx hf
      rcases hfc with ⟨h1, h2⟩ | ⟨j, g, h1, h2, h3⟩
      · rw [h2] at hg1
        rw [hg1, List.append_nil] at hsn
        have Hsn := Lib.hid hsn
        subst h1
        clear hg1 h2 hsn
        go_wp2_with (go_at_call 32; (with_reducible refine (HFd.out _ HXr.out).mono ?_); rintro e w5 ⟨rfl, hb5⟩; have hz5 := hb5.size; (try simp at hz5))
        go_roundw
        case rel => exact ⟨k + 1, by omega, by go_num, by rw [Hsn.out]; exact own_kept Hown.out hb5, by (repeat' (first | with_reducible exact Below.refl _ _ | with_reducible assumption | with_reducible refine Below.drew ?_ | with_reducible refine below_drewN' ?_ _ | with_reducible refine Below.alloc ?_ ?_ _ | with_reducible refine Below.setCell ?_ ?_ _ | with_reducible refine below_step (by assumption) ?_ ?_ | omega | (simp; done) | (simp; omega)))⟩
        case measure => simp [intOf]; omega
      · rw [h3] at hg1
        simp only at hg1
        have hjl : j < p := by rw [← Hp.out]; exact lt_at h2
        obtain ⟨hgI, hgs⟩ := HIg.out g (List.mem_of_getElem? h2)
        have e1 : f = (j : Int) := by omega
        subst e1
        clear h1 h3 hgI
        obtain ⟨bg, og, rfl, hbg, hcg⟩ := HGW.out (by rw [Hp.out]; omega)
        obtain ⟨c0, c1, c2, c3, c4, c5, c6, c7, c8, c9, c10, c11, c12, c13, c14⟩ := grow_cells (hcg j g h2)
        have hbgw : bg < wr.heap.size := by omega
        have HNu := Lib.hid (fun V => refnumber_any16 g x.nm V hgs Hsz.out)
        have HMa := Lib.hid (fun (q : Nat) V => refmachine_any g q V hgs)
        obtain ⟨q, hq⟩ : ∃ q, numG g.nm x.nm = q := ⟨_, rfl⟩
        rw [hq] at HNu hg1
        clear hcg h2
        by_cases hq0 : 0 < q
        · rw [if_pos hq0] at hg1
          rw [hg1] at hsn
          obtain ⟨M, hM⟩ : ∃ M, grpM g (q : Int) = M := ⟨_, rfl⟩
          have HM := HMa.out q
          rw [hM] at HM hsn
          have HMb := Lib.hid HM
          have k9 : decide ((0 : Int) < (q : Int)) = true := decide_eq_true (by omega)
          have hc3 : (guestsV gs (xs.take k)).length + 1 ≤ maxLen := by unfold maxLen; omega
          have hc4 : ((guestsV gs (xs.take k)).length + 1) * 128 ≤ 140737488355328 := by omega
          have Hrow := Lib.hid (show (guestsV gs (xs.take k)).flatMap mrow ++ mrow M = (guestsV gs (xs.take (k + 1))).flatMap mrow by rw [hsn]; simp)
          have Hlen := Lib.hid (show (guestsV gs (xs.take k)).length + 1 = (guestsV gs (xs.take (k + 1))).length by rw [hsn]; simp)
          clear hg1 hsn HM HMa hM
          go_wp2_with (go_at_call 32; (with_reducible refine (HFd.out _ HXr.out).mono ?_); rintro e w5 ⟨rfl, hb5⟩; obtain ⟨hc5, hf5⟩ := bcell hb5; have hz5 := hb5.size; (try simp at hz5); have z5_0 : b < w5.heap.size := (by omega); have y5_0 : b ≤ w5.heap.size := (by omega); have z5_1 : bg < w5.heap.size := (by omega); have y5_1 : bg ≤ w5.heap.size := (by omega))
          have hcH := held_cell
          refine region_below (by kernel_rfl) (by kernel_rfl) ?_
          repeat
            ((with_reducible refine wpQuiet_step (fun K hK => ?_))
             go_simp
             first
               | ((with_reducible refine hK _ ?_); clear hK K)
               | (apply Exists.intro
                  (with_reducible refine ⟨fun n => ?_, hK _ ?_⟩)
                  ((go_at_call 36; exact held_calls (HNu.out _)))
                  clear hK K))
          with_reducible refine wpQuiet_nil ?_
          intro w6 hw2
          clear hcH
          obtain ⟨⟨_, hb6⟩, rfl⟩ := hw2
          (try dsimp only)
          obtain ⟨hc6, hf6⟩ := bcell hb6
          have hz6 := hb6.size
          (try simp at hz6)
          have z6_0 : b < w6.heap.size := (by omega); have y6_0 : b ≤ w6.heap.size := (by omega); have z6_1 : bg < w6.heap.size := (by omega); have y6_1 : bg ≤ w6.heap.size := (by omega)
          have HX6 := Lib.hid (show Below wr.heap.size wr w6 by (repeat' (first | with_reducible exact Below.refl _ _ | with_reducible assumption | with_reducible refine Below.drew ?_ | with_reducible refine below_drewN' ?_ _ | with_reducible refine Below.alloc ?_ ?_ _ | with_reducible refine Below.setCell ?_ ?_ _ | with_reducible refine below_step (by assumption) ?_ ?_ | omega | (simp; done) | (simp; omega))))
          go_wp2_with (first
            | (go_at_call 37; (with_reducible refine (HMb.out _).mono ?_); rintro e w7 ⟨rfl, hb7⟩; have HX7 := Lib.hid (HX6.out.trans (hb7.mono HX6.out.size)); have hz7 := HX7.out.size; have HOx := Lib.hid (own_kept Hown.out HX7.out); have HBx := Lib.hid (HB.out.trans (HX7.out.mono HB.out.size)); have hbx := HBx.out.size)
            | (at_builtin; refine wpList_append_own _ rfl (.tmp 36) (.tmp 43) 22 rfl W.heap.size 44 i0 _ 10 128 Tryd.underlying22 Hi.out Hz0.out Hz1.out Hz2.out rfl (by decide) _ (guestsV gs (xs.take k)).length ((guestsV gs (xs.take k)).flatMap mrow) rfl (HOx.out.alloc _) ⟨w7.heap.size, 0, none⟩ 1 1 (mrow M) rfl rfl (news_at _ _ _) (mrow_one _) hc3 hc4 (le_alloc hbx _) ?_; intro v1 w1 hown1 hgrow1 _; rw [Hrow.out, Hlen.out] at hown1; have hB1 := own_below (HOx.out.alloc _) (HBx.out.alloc hbx _) (le_alloc hbx _) hgrow1; have HO1 := Lib.hid hown1; clear hown1 hgrow1))
          go_roundw
          case rel => exact ⟨k + 1, by omega, by go_num, HO1.out, hB1⟩
          case measure => simp [intOf]; omega
        · have hq1 : q = 0 := by omega
          rw [if_neg hq0] at hg1
          rw [hg1, List.append_nil] at hsn
          have Hsn := Lib.hid hsn
          subst hq1
          clear hg1 hsn hq0 HMa
          go_wp2_with (go_at_call 32; (with_reducible refine (HFd.out _ HXr.out).mono ?_); rintro e w5 ⟨rfl, hb5⟩; obtain ⟨hc5, hf5⟩ := bcell hb5; have hz5 := hb5.size; (try simp at hz5); have z5_0 : b < w5.heap.size := (by omega); have y5_0 : b ≤ w5.heap.size := (by omega); have z5_1 : bg < w5.heap.size := (by omega); have y5_1 : bg ≤ w5.heap.size := (by omega))
          have hcH := held_cell
          refine region_below (by kernel_rfl) (by kernel_rfl) ?_
          repeat
            ((with_reducible refine wpQuiet_step (fun K hK => ?_))
             go_simp
             first
               | ((with_reducible refine hK _ ?_); clear hK K)
               | (apply Exists.intro
                  (with_reducible refine ⟨fun n => ?_, hK _ ?_⟩)
                  ((go_at_call 36; exact held_calls (HNu.out _)))
                  clear hK K))
          with_reducible refine wpQuiet_nil ?_
          intro w6 hw2
          clear hcH
          obtain ⟨⟨_, hb6⟩, rfl⟩ := hw2
          (try dsimp only)
          obtain ⟨hc6, hf6⟩ := bcell hb6
          have hz6 := hb6.size
          (try simp at hz6)
          have HX6 := Lib.hid (show Below wr.heap.size wr w6 by (repeat' (first | with_reducible exact Below.refl _ _ | with_reducible assumption | with_reducible refine Below.drew ?_ | with_reducible refine below_drewN' ?_ _ | with_reducible refine Below.alloc ?_ ?_ _ | with_reducible refine Below.setCell ?_ ?_ _ | with_reducible refine below_step (by assumption) ?_ ?_ | omega | (simp; done) | (simp; omega))))
          go_wp2
          go_roundw
          case rel => exact ⟨k + 1, by omega, by go_num, by rw [Hsn.out]; exact own_kept Hown.out HX6.out, by (repeat' (first | with_reducible exact Below.refl _ _ | with_reducible assumption | with_reducible refine Below.drew ?_ | with_reducible refine below_drewN' ?_ _ | with_reducible refine Below.alloc ?_ ?_ _ | with_reducible refine Below.setCell ?_ ?_ _ | with_reducible refine below_step (by assumption) ?_ ?_ | omega | (simp; done) | (simp; omega)))⟩
          case measure => simp [intOf]; omega
    · obtain rfl : k = n := by omega
      have Ht := Lib.hid (show xs.take k = xs by rw [← Hln.out]; exact List.take_length)
      have HR := Lib.hid (show ∀ v, wr.ownsRow W.heap.size 44 10 v (guestsV gs (xs.take k)).length ((guestsV gs (xs.take k)).flatMap mrow) → Gives w (fun v w' => ∃ (ms : List Mac) (ad : Option Addr) (k : Nat), v = .slice ad ms.length k ∧ AlikeL ms (guestsV gs xs) ∧ MacL w' ad ms ∧ ∀ m ∈ ms, MacAt w' m) (.returned v) wr from fun v ho => by
        rw [Ht.out] at ho
        obtain ⟨ad, k9, e9, _, r9⟩ := OwnL.isL mrow_len (by decide) ho
        exact ⟨⟨v, rfl, guestsV gs xs, ad, k9, e9, ⟨rfl, fun i x y hx hy => by rw [hx] at hy; cases hy; exact alike_refl x⟩, r9, guests_at (fun g hg => ((HIg.out g hg).1.mono HXr.out).here) xs⟩, HXr.out⟩)
      go_wp2
      refine bodyPost_ret (by simp [results, Tryd.results21, go_sem]) rfl (HR.out _ Hown.out)
end Go.Proofs.YtbomcghjifgfoaaDoor
