/-
  The contract of triremeref05.Set.
-/
import Derived.Test.YtemeocgmlhmooaaLab4
namespace Go.Proofs.Ytemeocgmlhmooaa
open Go.RowKit
set_option linter.unusedVariables false

theorem OwnL.cap {α : Type} {enc : α → List Value} {K B : Nat} {t : TypeId} {l : List α} {v : Value} {w : World} {a : Option Addr} {n c : Nat} (h : OwnL enc K B t l v w) (e : v = .slice a n c) : n ≤ c := by
  subst e
  obtain ⟨hl, h | ⟨g, cap, cur, hv, r⟩⟩ := h
  · obtain ⟨h, _⟩ := h
    simp only [Value.slice.injEq] at h
    omega
  · simp only [Value.slice.injEq] at hv
    obtain ⟨_, h1, h2⟩ := hv
    obtain ⟨_, hnc, _⟩ := r
    omega

set_option maxRecDepth 100000 in
set_option maxHeartbeats 8000000 in
theorem refset_any (c : Option Addr) (kc : Nat) (l : List Lab) (key val : ByteArray) (w : World) (hF : LabL w c l) (hm : l.length ≤ 1000) (hk : key.size ≤ 1000000000) (hs : ∀ x ∈ l, x.key.size ≤ 1000000000) :
    Calls Try.prog 18 #[.slice c l.length kc, .string key, .string val] w (Gives w (OwnL kcs 2 w.heap.size 36 (setR l key val))) := by
  obtain ⟨i0, hi, hz0, hz1, hz2⟩ := info_parts Try.info36
  have Hi := Lib.hid hi
  have Hz0 := Lib.hid hz0
  have Hz1 := Lib.hid hz1
  have Hz2 := Lib.hid hz2
  clear hi hz0 hz1 hz2
  have hsd : ∀ x ∈ dropL l key, x.key.size ≤ 1000000000 := fun x hx => hs x (List.mem_filter.1 hx).1
  have hmd : (dropL l key).length ≤ 1000 := Nat.le_trans (List.length_filter_le _ _) hm
  have hR := refdrop_any c kc l key w hF (by omega)
  unfold setR
  obtain ⟨xs, hxs⟩ : ∃ xs, dropL l key = xs := ⟨_, rfl⟩
  rw [hxs] at hsd hmd hR ⊢
  have Hs := Lib.hid hsd
  have HR := Lib.hid hR
  clear hF hs hR hxs hsd hm
  obtain ⟨n, hln⟩ : ∃ n, xs.length = n := ⟨_, rfl⟩
  rw [hln] at hmd
  have Hln := Lib.hid hln
  clear hln
  go_enter Try.func18, Try.ntmps18
  go_wp2_with (go_at_call 19; (with_reducible refine HR.out.mono ?_); rintro e W ⟨⟨v, rfl, hv⟩, hb1⟩; have HBW := Lib.hid hb1; obtain ⟨q, m, hvq, hnil, hrow⟩ := hv.isL kcs_len (by decide); have hcap := OwnL.cap hv hvq; subst hvq; have HF := Lib.hid hrow; rw [Hln.out] at hcap hnil ⊢; have Hnil := Lib.hid hnil; clear hv hb1 hrow hnil)
  go_loopw [7, 8] (fun v i wr => ∃ k : Nat, k ≤ n ∧ i = .int .i64 k ∧ (xs.take k).all (aheadB key) = true ∧ wr.ownsRow W.heap.size 36 2 v (xs.take k).length ((xs.take k).flatMap kcs) ∧ Below W.heap.size W wr) (fun _ i _ => n - (intOf i).toNat)
  case atStart => exact ⟨0, Nat.zero_le _, rfl, rfl, World.ownsRow_nil _ _ _ _, by (repeat' (first | with_reducible exact Below.refl _ _ | with_reducible assumption | with_reducible refine Below.drew ?_ | with_reducible refine below_drewN' ?_ _ | with_reducible refine Below.alloc ?_ ?_ _ | with_reducible refine Below.setCell ?_ ?_ _ | with_reducible refine below_step (by assumption) ?_ ?_ | omega | (simp; done) | (simp; omega)))⟩
  case round =>
    obtain ⟨k, hkn, rfl, hE, hown, hB⟩ := hrel
    obtain ⟨hcB, hfB⟩ := bcell hB
    have hbz := hB.size
    have Hown := Lib.hid hown
    have HB := Lib.hid hB
    have HE := Lib.hid hE
    clear hown hE
    by_cases hlt : k < n
    · obtain ⟨x, hx⟩ := mem_at (l := xs) (k := k) (by rw [Hln.out]; exact hlt)
      obtain ⟨b, off, rfl, hb, hc⟩ := HF.out (by rw [Hln.out]; omega)
      have hbw : b < wr.heap.size := by omega
      obtain ⟨c0, c1⟩ := lab_cells (hc k x hx)
      have Hx := Lib.hid hx
      have Hsx := Lib.hid (Hs.out x (List.mem_of_getElem? hx))
      clear hc hx
      cases ha : aheadB key x
      · have Hend := Lib.hid (while_at HE.out (.inr ⟨x, Hx.out, ha⟩))
        have K1 := Lib.hid (show lessB x.key key = false from ha)
        clear ha
        have hL : (xs.take k).length ≤ k := List.length_take_le _ _
        have hc3 : (xs.take k).length + 1 ≤ maxLen := by unfold maxLen; omega
        have hc4 : ((xs.take k).length + 1) * 32 ≤ 140737488355328 := by omega
        have Hrow := Lib.hid (show (xs.take k).flatMap kcs ++ kcs (Lab.mk key val) = (xs.take k ++ [Lab.mk key val]).flatMap kcs by simp)
        have Hlen := Lib.hid (show (xs.take k).length + 1 = (xs.take k ++ [Lab.mk key val]).length by simp)
        have hn1 : (xs.take k ++ [Lab.mk key val]).length ≤ n + 1 := by simp only [List.length_append, List.length_cons, List.length_nil]; omega
        have hq5 : (xs.take k ++ [Lab.mk key val]).length + (n - k) ≤ maxLen := by unfold maxLen; omega
        have hq6 : ((xs.take k ++ [Lab.mk key val]).length + (n - k)) * 32 ≤ 140737488355328 := by omega
        have Hlen2 := Lib.hid (show (xs.take k ++ [Lab.mk key val]).length + (n - k) = ((xs.take k ++ [Lab.mk key val]) ++ xs.drop k).length by simp only [List.length_append, List.length_drop, Hln.out])
        have Hrow2 := Lib.hid (show (xs.take k ++ [Lab.mk key val]).flatMap kcs ++ (xs.drop k).flatMap kcs = ((xs.take k ++ [Lab.mk key val]) ++ xs.drop k).flatMap kcs by simp)
        have He := Lib.hid (show (xs.take k ++ [Lab.mk key val]) ++ xs.drop k = xs.takeWhile (aheadB key) ++ Lab.mk key val :: xs.dropWhile (aheadB key) by rw [Hend.out.1, Hend.out.2]; simp)
        have Hdl := Lib.hid (show ((xs.drop k).flatMap kcs).length = (n - k) * 2 by rw [rows_length kcs 2 kcs_len, List.length_drop, Hln.out])
        obtain ⟨q2, hq2⟩ : ∃ q2, (if m = k then (some ⟨b, off, none⟩ : Option Addr) else (some ⟨b, off, none⟩ : Option Addr).map (·.add (k * 2))) = q2 := ⟨_, rfl⟩
        have Hnil2 := Lib.hid (show q2 = none → n - k = 0 ∧ m - k = 0 by
          intro e
          rw [← hq2] at e
          have hq : (some ⟨b, off, none⟩ : Option Addr) = none := by
            split at e
            · exact e
            · first | (simp at e; done) | (simpa using e)
          have := Hnil.out hq
          omega)
        have Hq2 := Lib.hid hq2
        have hsl : ∀ V : World, (Instr.slice 22 (.slice (some ⟨b, off, none⟩) n m) (some (.int .i64 (k : Int))) none none).run Try.prog V = .ok (.slice q2 (n - k) (m - k)) V := fun V => by
          rw [run_slice_l V 22 (some ⟨b, off, none⟩) n m Try.underlying22 .i64 (k : Int) (by omega) (by omega)]
          first | (simp [go_sem, hq2]; done) | (simp [go_sem]; simpa [go_sem] using hq2)
        clear hL hq2
        go_wp2_with (first
          | (go_at_call 30; (with_reducible refine (less_any x.key key Hsx.out _).mono ?_); rw [K1.out]; rintro e w6 ⟨rfl, hb6⟩; obtain ⟨hc6, hf6⟩ := bcell hb6; have hz6 := hb6.size; have hb6w : b < w6.heap.size := (by omega); have HOx := Lib.hid (own_kept Hown.out hb6); have HBx := Lib.hid (HB.out.trans (hb6.mono HB.out.size)))
          | (at_builtin; refine wpList_append_own _ rfl (.tmp 34) (.tmp 38) 22 rfl W.heap.size 36 i0 _ 2 32 Try.underlying22 Hi.out Hz0.out Hz1.out Hz2.out rfl (by decide) _ (xs.take k).length ((xs.take k).flatMap kcs) rfl (HOx.out.alloc _) ⟨w6.heap.size, 0, none⟩ 1 1 (kcs (Lab.mk key val)) rfl rfl (news_at _ _ _) (kcs_one _) hc3 hc4 (le_alloc HBx.out.size _) ?_; intro v1 w1 hown1 hgrow1 _; rw [Hrow.out, Hlen.out] at hown1; have HB1 := Lib.hid (own_below (HOx.out.alloc _) (HBx.out.alloc HBx.out.size _) (le_alloc HBx.out.size _) hgrow1); have HO1 := Lib.hid hown1; clear hown1 hgrow1; have HR2 := Lib.hid (show LabL w1 q2 (xs.drop k) by have h := rows_sliced (k := k) (HF.out.mono HB1.out) (show xs.length ≤ m by rw [Hln.out]; exact hcap); rw [Hq2.out] at h; exact h))
          | (at_builtin; refine wpList_append_src rfl (.tmp 40) (.tmp 43) 22 rfl W.heap.size 36 i0 _ 2 32 Try.underlying22 Hi.out Hz0.out Hz1.out Hz2.out rfl (by decide) _ (xs.take k ++ [Lab.mk key val]).length ((xs.take k ++ [Lab.mk key val]).flatMap kcs) rfl HO1.out q2 (n - k) (m - k) ((xs.drop k).flatMap kcs) rfl Hdl.out (RowsAt.news kcs_len HR2.out) Hnil2.out (flat_ones kcs_one _) hq5 hq6 HB1.out.size ?_; intro v2 w2 hown2 hgrow2; rw [Hlen2.out, Hrow2.out, He.out] at hown2; have HB2 := Lib.hid (own_below HO1.out HB1.out HB1.out.size hgrow2); have HO2 := Lib.hid hown2; clear hown2 hgrow2))
        have HP := Lib.hid (show Gives w (OwnL kcs 2 w.heap.size 36 (xs.takeWhile (aheadB key) ++ Lab.mk key val :: xs.dropWhile (aheadB key))) (.returned v2) w2 from ⟨⟨v2, rfl, OwnL.mono HO2.out HBW.out.size⟩, HBW.out.trans (HB2.out.mono HBW.out.size)⟩)
        refine bodyPost_ret (by simp [results, Try.results18, go_sem]) rfl HP.out
      · have Hall := Lib.hid (all_take1 Hx.out ha HE.out)
        have K1 := Lib.hid (show lessB x.key key = true from ha)
        have hL : (xs.take k).length ≤ k := List.length_take_le _ _
        have hc3 : (xs.take k).length + 1 ≤ maxLen := by unfold maxLen; omega
        have hc4 : ((xs.take k).length + 1) * 32 ≤ 140737488355328 := by omega
        have Hrow := Lib.hid (show (xs.take k).flatMap kcs ++ kcs x = (xs.take (k + 1)).flatMap kcs by rw [take_at Hx.out]; simp)
        have Hlen := Lib.hid (show (xs.take k).length + 1 = (xs.take (k + 1)).length by rw [take_at Hx.out]; simp)
        clear hL ha
        go_wp2_with (first | (go_at_call 30; (with_reducible refine (less_any x.key key Hsx.out _).mono ?_); rw [K1.out]; rintro e w6 ⟨rfl, hb6⟩; obtain ⟨hc6, hf6⟩ := bcell hb6; have hz6 := hb6.size; have hb6w : b < w6.heap.size := (by omega); have HOx := Lib.hid (own_kept Hown.out hb6); have HBx := Lib.hid (HB.out.trans (hb6.mono HB.out.size)); have hbx := HBx.out.size) | (at_builtin; refine wpList_append_own _ rfl (.tmp 25) (.tmp 30) 22 rfl W.heap.size 36 i0 _ 2 32 Try.underlying22 Hi.out Hz0.out Hz1.out Hz2.out rfl (by decide) _ (xs.take k).length ((xs.take k).flatMap kcs) rfl (HOx.out.alloc _) ⟨w6.heap.size, 0, none⟩ 1 1 (kcs x) rfl rfl (news_at _ _ _) (kcs_one _) hc3 hc4 (le_alloc hbx _) ?_; intro v1 w1 hown1 hgrow1 _; rw [Hrow.out, Hlen.out] at hown1; have hB1 := own_below (HOx.out.alloc _) (HBx.out.alloc hbx _) (le_alloc hbx _) hgrow1; have HO1 := Lib.hid hown1; clear hown1 hgrow1))
        go_roundw
        case rel => exact ⟨k + 1, by omega, by go_num, Hall.out, HO1.out, hB1⟩
        case measure => simp [intOf]; omega
    · have hkn2 : k = n := by omega
      have Hend := Lib.hid (while_at HE.out (.inl (hkn2.trans Hln.out.symm)))
      clear hkn2
      have HOx := Hown
      have HBx := HB
      have hL : (xs.take k).length ≤ k := List.length_take_le _ _
      have hc3 : (xs.take k).length + 1 ≤ maxLen := by unfold maxLen; omega
      have hc4 : ((xs.take k).length + 1) * 32 ≤ 140737488355328 := by omega
      have Hrow := Lib.hid (show (xs.take k).flatMap kcs ++ kcs (Lab.mk key val) = (xs.take k ++ [Lab.mk key val]).flatMap kcs by simp)
      have Hlen := Lib.hid (show (xs.take k).length + 1 = (xs.take k ++ [Lab.mk key val]).length by simp)
      have hn1 : (xs.take k ++ [Lab.mk key val]).length ≤ n + 1 := by simp only [List.length_append, List.length_cons, List.length_nil]; omega
      have hq5 : (xs.take k ++ [Lab.mk key val]).length + (n - k) ≤ maxLen := by unfold maxLen; omega
      have hq6 : ((xs.take k ++ [Lab.mk key val]).length + (n - k)) * 32 ≤ 140737488355328 := by omega
      have Hlen2 := Lib.hid (show (xs.take k ++ [Lab.mk key val]).length + (n - k) = ((xs.take k ++ [Lab.mk key val]) ++ xs.drop k).length by simp only [List.length_append, List.length_drop, Hln.out])
      have Hrow2 := Lib.hid (show (xs.take k ++ [Lab.mk key val]).flatMap kcs ++ (xs.drop k).flatMap kcs = ((xs.take k ++ [Lab.mk key val]) ++ xs.drop k).flatMap kcs by simp)
      have He := Lib.hid (show (xs.take k ++ [Lab.mk key val]) ++ xs.drop k = xs.takeWhile (aheadB key) ++ Lab.mk key val :: xs.dropWhile (aheadB key) by rw [Hend.out.1, Hend.out.2]; simp)
      have Hdl := Lib.hid (show ((xs.drop k).flatMap kcs).length = (n - k) * 2 by rw [rows_length kcs 2 kcs_len, List.length_drop, Hln.out])
      obtain ⟨q2, hq2⟩ : ∃ q2, (if m = k then (q : Option Addr) else (q : Option Addr).map (·.add (k * 2))) = q2 := ⟨_, rfl⟩
      have Hnil2 := Lib.hid (show q2 = none → n - k = 0 ∧ m - k = 0 by
        intro e
        rw [← hq2] at e
        have hq : (q : Option Addr) = none := by
          split at e
          · exact e
          · first | (simp at e; done) | (simpa using e)
        have := Hnil.out hq
        omega)
      have Hq2 := Lib.hid hq2
      have hsl : ∀ V : World, (Instr.slice 22 (.slice (q) n m) (some (.int .i64 (k : Int))) none none).run Try.prog V = .ok (.slice q2 (n - k) (m - k)) V := fun V => by
        rw [run_slice_l V 22 (q) n m Try.underlying22 .i64 (k : Int) (by omega) (by omega)]
        first | (simp [go_sem, hq2]; done) | (simp [go_sem]; simpa [go_sem] using hq2)
      clear hL hq2
      go_wp2_with (first
        | fail
        | (at_builtin; refine wpList_append_own _ rfl (.tmp 34) (.tmp 38) 22 rfl W.heap.size 36 i0 _ 2 32 Try.underlying22 Hi.out Hz0.out Hz1.out Hz2.out rfl (by decide) _ (xs.take k).length ((xs.take k).flatMap kcs) rfl (HOx.out.alloc _) ⟨wr.heap.size, 0, none⟩ 1 1 (kcs (Lab.mk key val)) rfl rfl (news_at _ _ _) (kcs_one _) hc3 hc4 (le_alloc HBx.out.size _) ?_; intro v1 w1 hown1 hgrow1 _; rw [Hrow.out, Hlen.out] at hown1; have HB1 := Lib.hid (own_below (HOx.out.alloc _) (HBx.out.alloc HBx.out.size _) (le_alloc HBx.out.size _) hgrow1); have HO1 := Lib.hid hown1; clear hown1 hgrow1; have HR2 := Lib.hid (show LabL w1 q2 (xs.drop k) by have h := rows_sliced (k := k) (HF.out.mono HB1.out) (show xs.length ≤ m by rw [Hln.out]; exact hcap); rw [Hq2.out] at h; exact h))
        | (at_builtin; refine wpList_append_src rfl (.tmp 40) (.tmp 43) 22 rfl W.heap.size 36 i0 _ 2 32 Try.underlying22 Hi.out Hz0.out Hz1.out Hz2.out rfl (by decide) _ (xs.take k ++ [Lab.mk key val]).length ((xs.take k ++ [Lab.mk key val]).flatMap kcs) rfl HO1.out q2 (n - k) (m - k) ((xs.drop k).flatMap kcs) rfl Hdl.out (RowsAt.news kcs_len HR2.out) Hnil2.out (flat_ones kcs_one _) hq5 hq6 HB1.out.size ?_; intro v2 w2 hown2 hgrow2; rw [Hlen2.out, Hrow2.out, He.out] at hown2; have HB2 := Lib.hid (own_below HO1.out HB1.out HB1.out.size hgrow2); have HO2 := Lib.hid hown2; clear hown2 hgrow2))
      have HP := Lib.hid (show Gives w (OwnL kcs 2 w.heap.size 36 (xs.takeWhile (aheadB key) ++ Lab.mk key val :: xs.dropWhile (aheadB key))) (.returned v2) w2 from ⟨⟨v2, rfl, OwnL.mono HO2.out HBW.out.size⟩, HBW.out.trans (HB2.out.mono HBW.out.size)⟩)
      refine bodyPost_ret (by simp [results, Try.results18, go_sem]) rfl HP.out
end Go.Proofs.Ytemeocgmlhmooaa
