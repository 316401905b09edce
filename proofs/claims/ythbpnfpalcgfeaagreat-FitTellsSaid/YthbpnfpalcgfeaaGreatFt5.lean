/-
  Apart: the least number, Many, Why.
-/
import Derived.Test.YthbpnfpalcgfeaaGreatFt2
import Derived.Test.YthbpnfpalcgfeaaGreatFt4
namespace Go.Proofs.YthbpnfpalcgfeaaGreat
open Go.RowKit
set_option linter.unusedVariables false
set_option linter.unusedSimpArgs false

theorem min_next {l : List Int} {k : Nat} {y : Int} (h : l[k]? = some y) (hk : 1 ≤ k) : minL (l.take (k + 1)) = minS (minL (l.take k)) y := by
  match l, k, hk with
  | [], k + 1, _ => simp at h
  | x :: l, k + 1, _ =>
    rw [List.take_succ_cons, List.take_succ_cons]
    show (l.take (k + 1)).foldl minS x = minS ((l.take k).foldl minS x) y
    have h : l[k]? = some y := by simpa using h
    rw [List.take_add_one, h, List.foldl_append]
    rfl
theorem pcs_cell {w : World} {b o : Nat} {n : Int} (h : ∀ r, r < 1 → w.cell? ⟨b, o + r, none⟩ = (pcs n)[r]?) : w.cell? ⟨b, o, none⟩ = some (.int .i64 n) := h 0 (by decide)
set_option maxRecDepth 100000 in
set_option maxHeartbeats 4000000 in
theorem min_any (c : Option Addr) (kc : Nat) (l : List Int) (w : World) (hF : IntL w c l) (hm : l.length ≤ 1000000) (h1 : 1 ≤ l.length) :
    Calls Tryz.prog 75 #[.slice c l.length kc] w fun e w' => e = .returned (.int .i64 (minL l)) ∧ Below w.heap.size w w' := by
  obtain ⟨n, hn⟩ : ∃ n, l.length = n := ⟨_, rfl⟩
  have HN := Lib.hid hn
  have HF := Lib.hid hF
  obtain ⟨R, hR⟩ : ∃ R, minL l = R := ⟨_, rfl⟩
  have HR := Lib.hid hR
  obtain ⟨x, hx⟩ := mem_at (l := l) (k := 0) (by omega)
  have HM0 := Lib.hid (show minL (l.take 1) = x by
    match l, hx with
    | y :: l, hx =>
      obtain rfl : y = x := by simpa using hx
      rfl)
  obtain ⟨b, o, rfl, hb, hc⟩ := hF (by omega)
  have c0 : w.cell? ⟨b, o, none⟩ = some (.int .i64 x) := by
    have h9 := hc 0 x hx 0 (by decide)
    rw [Nat.zero_mul] at h9
    exact h9
  rw [hn] at hm h1 ⊢
  rw [hR]
  clear hn hF hR hx hc
  go_enter Tryz.func75, Tryz.ntmps75
  go_wp2
  go_loopw [3, 4] (fun vm vi wr => ∃ k : Nat, 1 ≤ k ∧ k ≤ n ∧ vi = .int .i64 k ∧ vm = .int .i64 (minL (l.take k)) ∧ Below w.heap.size w wr) (fun _ vi _ => n - (intOf vi).toNat)
  case atStart => exact ⟨1, Nat.le_refl _, h1, rfl, by rw [HM0.out], by (repeat' (first | with_reducible exact Below.refl _ _ | with_reducible assumption | with_reducible refine Below.drew ?_ | with_reducible refine below_drewN' ?_ _ | with_reducible refine Below.alloc ?_ ?_ _ | with_reducible refine Below.setCell ?_ ?_ _ | with_reducible refine below_step (by assumption) ?_ ?_ | omega | (simp; done) | (simp; omega)))⟩
  case round =>
    obtain ⟨k, hk1, hk, rfl, rfl, hB⟩ := hrel
    have HB := Lib.hid hB
    by_cases hlt : k < n
    · obtain ⟨y, hy⟩ := mem_at (l := l) (k := k) (by rw [HN.out]; exact hlt)
      obtain ⟨b2, o2, e9, hb2, hc⟩ := (HF.out.mono hB) (by rw [HN.out]; omega)
      injection e9 with e9
      injection e9 with e1 e2
      subst e1 e2
      have c1 : wr.cell? ⟨b, o + k, none⟩ = some (.int .i64 y) := by
        have h9 := hc k y hy 0 (by decide)
        rw [Nat.mul_one] at h9
        exact h9
      have HNx := Lib.hid (min_next hy hk1)
      obtain ⟨m, hm'⟩ : ∃ m, minL (l.take k) = m := ⟨_, rfl⟩
      rw [hm'] at HNx ⊢
      clear hB hc hy hm'
      by_cases hlt2 : y < m
      · have HNy := Lib.hid (show minL (l.take (k + 1)) = y by rw [HNx.out]; exact if_pos hlt2)
        have e9 : min m y = y := by omega
        have e8 : min y m = y := by omega
        go_wp2
        go_roundw
        case rel => exact ⟨k + 1, by omega, by omega, by go_num, by rw [HNy.out], HB.out⟩
        case measure => simp [intOf]; omega
      · have HNy := Lib.hid (show minL (l.take (k + 1)) = m by rw [HNx.out]; exact if_neg hlt2)
        have e9 : min m y = m := by omega
        have e8 : min y m = m := by omega
        go_wp2
        go_roundw
        case rel => exact ⟨k + 1, by omega, by omega, by go_num, by rw [HNy.out], HB.out⟩
        case measure => simp [intOf]; omega
    · obtain rfl : k = n := by omega
      have HRr := Lib.hid (show minL (l.take k) = R by rw [List.take_of_length_le (Nat.le_of_eq HN.out)]; exact HR.out)
      clear hB
      go_wp2
      go_ret
      exact ⟨by first | rfl | (rw [HRr.out]; first | done | rfl), HB.out⟩
theorem idx_in {α : Type} {p : α → Bool} : ∀ {l : List α}, l.any p = true → ∃ (i : Nat) (y : α), Lb.idxI p l = (i : Int) ∧ l[i]? = some y ∧ p y = true := by
  intro l h
  unfold Lb.idxI
  rw [if_pos h]
  have hlt : l.findIdx p < l.length := List.findIdx_lt_length.2 (by simpa using h)
  exact ⟨l.findIdx p, l[l.findIdx p], rfl, List.getElem?_eq_getElem hlt, List.findIdx_getElem (w := hlt)⟩
set_option maxRecDepth 100000 in
set_option maxHeartbeats 8000000 in
theorem many_any (a c : Option Addr) (ka kc : Nat) (ms : List Mac) (bs : List Bd) (p : Pd) (on : ByteArray) (w : World) (hY : YA w a ms c bs) (hP : PodAt w p) (hp : lightP p = true) :
    Calls Tryz.prog 45 #[.slice a ms.length ka, .slice c bs.length kc, .agg (prow p).toArray, .string on] w fun e w' => e = .returned (.bool (manyB ms bs p on)) ∧ Below w.heap.size w w' := by
  have hfi := fun V (hV : Below w.heap.size w V) => find_any a ka ms on V (hY.ml.mono hV) (by have := hY.mm; omega)
  have hco := fun V (hV : Below w.heap.size w V) => counts_any a c ka kc ms bs p V (hY.mono hV) (hP.mono hV) hp
  have hzo := fun V (hV : Below w.heap.size w V) => zone_any a ka ms on V (hY.ml.mono hV) (fun m hm => ((hY.mi m hm).mono hV).here) (by have := hY.mm; omega)
  have hha := fun V (hV : Below w.heap.size w V) => Lb.has_any p.la p.da p.lk p.dk p.labs p.spds V (hP.mono hV).labs (hP.mono hV).spds (by have := lightP_lens hp; omega) (by have := lightP_lens hp; omega)
  have hix := fun az kz V (hT : TxtL V az (zonesY ms)) => Lb.indexs_any az kz (zonesY ms) (zV ms on) V hT (by have := zonesY_len ms; have := hY.mm; omega)
  have hNl : (numsC ms bs p).length = (zonesY ms).length := by unfold numsC; rw [List.length_map]
  have hZl := zonesY_len ms
  have hml := hY.mm
  have hmi := fun an kn V (hT : IntL V an (numsC ms bs p)) (h1 : 1 ≤ (zonesY ms).length) => min_any an kn (numsC ms bs p) V hT (by rw [hNl]; omega) (by rw [hNl]; exact h1)
  have hmr := minL_range (numsC ms bs p) (1000 * 1000) (by omega) (fun x hx => by
    unfold numsC at hx
    obtain ⟨z, _, rfl⟩ := List.mem_map.1 hx
    have h9 := zCnt_le ms bs p z
    have h8 := Nat.mul_le_mul hY.mm hY.bb
    omega)
  obtain ⟨R, hR⟩ : ∃ R, manyB ms bs p on = R := ⟨_, rfl⟩
  rw [hR]
  unfold manyB at hR
  obtain ⟨W, hW⟩ : ∃ W, W = (w.alloc (.cells #[.string (p).nm, .int .i64 (p).n0, .int .i64 (p).n1, .int .i64 (p).n2, .int .i64 (p).n3, .int .i64 (p).n4, .slice (p).la (p).labs.length (p).lk, .slice (p).sa (p).sels.length (p).sk, .slice (p).ta (p).trms.length (p).tk, .slice (p).ba (p).bers.length (p).bk, .slice (p).pa (p).prts.length (p).pk, .slice (p).aa (p).aprs.length (p).ak, .bool (p).wd, .slice (p).da (p).spds.length (p).dk, .int .i64 (p).sw, .int .i64 (p).rk, .string (p).ow, .bool (p).dm, .bool (p).pn, .bool (p).lc] 31)) := ⟨_, rfl⟩
  have hX : Box w.heap.size (prow p) W := by rw [hW]; exact (Box.new w (prow p) 31)
  have hbw : Below w.heap.size w W := by rw [hW]; (repeat' (first | with_reducible exact Below.refl _ _ | with_reducible assumption | with_reducible refine Below.drew ?_ | with_reducible refine below_drewN' ?_ _ | with_reducible refine Below.alloc ?_ ?_ _ | with_reducible refine Below.setCell ?_ ?_ _ | with_reducible refine below_step (by assumption) ?_ ?_ | omega | (simp; done) | (simp; omega)))
  have HB := Lib.hid hbw
  have HX := Lib.hid hX
  have c13 : W.cell? ⟨w.heap.size, 13, none⟩ = some (.slice p.da p.spds.length p.dk) := hX.cell 13
  have hlp := hX.lt
  obtain ⟨N, hN⟩ : ∃ N, bs.length = N := ⟨_, rfl⟩
  obtain ⟨n, hn⟩ : ∃ n, ms.length = n := ⟨_, rfl⟩
  rw [hn] at hfi hzo
  rw [hn, hN] at hco
  rw [hn, hN]
  show Calls Tryz.prog 45 #[.slice a n ka, .slice c N kc, .agg #[.string (p).nm, .int .i64 (p).n0, .int .i64 (p).n1, .int .i64 (p).n2, .int .i64 (p).n3, .int .i64 (p).n4, .slice (p).la (p).labs.length (p).lk, .slice (p).sa (p).sels.length (p).sk, .slice (p).ta (p).trms.length (p).tk, .slice (p).ba (p).bers.length (p).bk, .slice (p).pa (p).prts.length (p).pk, .slice (p).aa (p).aprs.length (p).ak, .bool (p).wd, .slice (p).da (p).spds.length (p).dk, .int .i64 (p).sw, .int .i64 (p).rk, .string (p).ow, .bool (p).dm, .bool (p).pn, .bool (p).lc], .string on] w _
  by_cases h0 : p.spds.length = 0
  · have q0 : ((p.spds.length : Int) == 0) = true := by rw [h0]; rfl
    rw [if_pos h0] at hR
    subst hR
    clear hfi hco hzo hha hix hNl hZl hml hmi hmr hX hbw hY hP hp hN hn h0
    go_enter Tryz.func45, Tryz.ntmps45
    go_upto_region 1 with (fail)
    rw [← hW]
    clear hW
    go_wp2
    go_ret
    exact ⟨rfl, HB.out⟩
  · have q0 : ((p.spds.length : Int) == 0) = false := by rw [beq_eq_false_iff_ne]; omega
    rw [if_neg h0] at hR
    clear h0
    rcases find_cases ms on with ⟨h1, h2⟩ | ⟨i, m, h1, h2, h3, h4⟩
    · rw [if_pos (by rw [h2]; rfl)] at hR
      subst hR
      rw [h1] at hfi
      have HFi := Lib.hid hfi
      clear hfi hco hzo hha hix hNl hZl hml hmi hmr hX hbw hY hP hp hN hn h1 h2
      go_enter Tryz.func45, Tryz.ntmps45
      go_upto_region 1 with (fail)
      rw [← hW]
      clear hW
      go_wp2_with (go_at_call 20; (with_reducible refine (HFi.out _ HB.out).mono ?_); rintro e w1 ⟨rfl, hb⟩; have HB1 := Lib.hid (HB.out.trans (hb.mono HB.out.size)); clear hb)
      go_ret
      exact ⟨rfl, HB1.out⟩
    · rw [if_neg (by rw [h4]; exact Bool.false_ne_true)] at hR
      rw [h1] at hfi
      have HFi := Lib.hid hfi
      have HCo := Lib.hid hco
      have HZo := Lib.hid hzo
      have HHa := Lib.hid hha
      have HIx := Lib.hid hix
      have HMi := Lib.hid hmi
      have HNums := Lib.hid (show ∀ (j : Nat) z, (zonesY ms)[j]? = some z → (numsC ms bs p)[j]? = some (zCnt ms bs p z : Int) from fun j z hz => by
        unfold numsC
        rw [List.getElem?_map, hz]
        rfl)
      have hzn := zCnt_le ms bs p (zV ms on)
      have hzn2 := Nat.mul_le_mul hY.mm hY.bb
      unfold zNum at hR
      obtain ⟨Z, hZ⟩ : ∃ Z, zonesY ms = Z := ⟨_, rfl⟩
      obtain ⟨L, hL⟩ : ∃ L, numsC ms bs p = L := ⟨_, rfl⟩
      obtain ⟨zv, hzv⟩ : ∃ z, zV ms on = z := ⟨_, rfl⟩
      obtain ⟨zb, hzb⟩ : ∃ z, zB ms on = z := ⟨_, rfl⟩
      obtain ⟨hs, hhs⟩ : ∃ z, Lb.hasP p.labs p.spds = z := ⟨_, rfl⟩
      obtain ⟨mn, hmn⟩ : ∃ z, minL L = z := ⟨_, rfl⟩
      have HCn := Lib.hid (show ∀ (j : Nat) z, Z[j]? = some z → L[j]? = some (zCnt ms bs p z : Int) by rw [← hZ, ← hL]; exact HNums.out)
      obtain ⟨cn, hcn⟩ : ∃ z, zCnt ms bs p zv = z := ⟨_, rfl⟩
      rw [hZ, hL, hzv, hzb, hhs, hmn, hcn] at hR
      rw [hzv, hcn] at hzn
      rw [hzv, hzb] at HZo
      rw [hhs] at HHa
      rw [hZ, hzv] at HIx
      rw [hL, hZ, hmn] at HMi
      rw [hL, hZ] at hNl
      rw [hL, hmn] at hmr
      rw [hZ, hL] at HCo
      rw [hZ] at hZl
      obtain ⟨nz, hnz⟩ : ∃ nz, Z.length = nz := ⟨_, rfl⟩
      rw [hnz] at HIx hNl hZl HMi
      rw [hNl] at HMi
      have HCo2 := Lib.hid (show ∀ V, Below w.heap.size w V → Calls Tryz.prog 72 #[.slice a n ka, .slice c N kc, .agg #[.string (p).nm, .int .i64 (p).n0, .int .i64 (p).n1, .int .i64 (p).n2, .int .i64 (p).n3, .int .i64 (p).n4, .slice (p).la (p).labs.length (p).lk, .slice (p).sa (p).sels.length (p).sk, .slice (p).ta (p).trms.length (p).tk, .slice (p).ba (p).bers.length (p).bk, .slice (p).pa (p).prts.length (p).pk, .slice (p).aa (p).aprs.length (p).ak, .bool (p).wd, .slice (p).da (p).spds.length (p).dk, .int .i64 (p).sw, .int .i64 (p).rk, .string (p).ow, .bool (p).dm, .bool (p).pn, .bool (p).lc]] V fun e w' => (∃ az kz an kn, e = .returned (.tuple #[.slice az nz kz, .slice an nz kn]) ∧ TxtL w' az Z ∧ IntL w' an L) ∧ Below V.heap.size V w' from fun V hV => (HCo.out V hV).mono fun e w' h => by
        obtain ⟨⟨az, kz, an, kn, e1, h1, h2⟩, h3⟩ := h
        exact ⟨⟨az, kz, an, kn, by rw [e1, hnz, hNl], h1, h2⟩, h3⟩)
      have c14 : W.cell? ⟨w.heap.size, 14, none⟩ = some (.int .i64 p.sw) := hX.cell 14
      have HRp := Lib.hid (fun V (h : Box w.heap.size (prow p) V) => show V.rangeAt w.heap.size 0 [.string (p).nm, .int .i64 (p).n0, .int .i64 (p).n1, .int .i64 (p).n2, .int .i64 (p).n3, .int .i64 (p).n4, .slice (p).la (p).labs.length (p).lk, .slice (p).sa (p).sels.length (p).sk, .slice (p).ta (p).trms.length (p).tk, .slice (p).ba (p).bers.length (p).bk, .slice (p).pa (p).prts.length (p).pk, .slice (p).aa (p).aprs.length (p).ak, .bool (p).wd, .slice (p).da (p).spds.length (p).dk, .int .i64 (p).sw, .int .i64 (p).rk, .string (p).ow, .bool (p).dm, .bool (p).pn, .bool (p).lc] from h.range)
      clear hfi hco hzo hha hix hmi hX hbw hY hP hp hN hn h1 h2 h3 h4 hZ hL hzv hzb hhs hmn hnz HNums HCo c14
      rcases (show (zb = true ∧ Z.any (strB zv) = true) ∨ ¬ (zb = true ∧ Z.any (strB zv) = true) from Decidable.em _) with hg | hg
      · rw [if_pos hg] at hR
        obtain ⟨rfl, hz⟩ := hg
        obtain ⟨i', y, hix, hiy, hy⟩ := idx_in hz
        obtain rfl : zv = y := of_decide_eq_true hy
        have hLi := HCn.out i' _ hiy
        rw [hcn] at hLi
        have hnz1 : 1 ≤ nz := by
          have := (List.getElem?_eq_some_iff.1 hLi).1
          omega
        have hLl : 0 < L.length := by omega
        have hil : i' < nz := by
          have := (List.getElem?_eq_some_iff.1 hLi).1
          omega
        have HLi := Lib.hid hLi
        have HLl := Lib.hid hLl
        rw [hix] at HIx
        have hw1 : IntKind.i64.wrap ((cn : Int) + 1) = (cn : Int) + 1 := wrap_in (by omega) (by omega)
        have hw2 : IntKind.i64.wrap ((cn : Int) + 1 - mn) = (cn : Int) + 1 - mn := wrap_in (by omega) (by omega)
        have hw3 : IntKind.i64.wrap ((cn : Int) - mn) = (cn : Int) - mn := wrap_in (by omega) (by omega)
        have hi0 : ((i' : Int) < 0) = False := by simp
        clear hz hy hiy hix hLi hLl hcn HCn hNl
        go_enter Tryz.func45, Tryz.ntmps45
        go_upto_region 1 with (fail)
        rw [← hW]
        clear hW
        go_upto_region 8 with (first
          | (go_at_call 20; (with_reducible refine (HFi.out _ HB.out).mono ?_); rintro e w1 ⟨rfl, hb⟩; have HB1 := Lib.hid (HB.out.trans (hb.mono HB.out.size)); have HX1 := Lib.hid (HX.out.mono hb); clear hb)
            | ((with_reducible refine at_load (ty := 31) ?_); refine load_cells rfl 31 (.tmp 6) rfl w.heap.size 0 rfl [.string (p).nm, .int .i64 (p).n0, .int .i64 (p).n1, .int .i64 (p).n2, .int .i64 (p).n3, .int .i64 (p).n4, .slice (p).la (p).labs.length (p).lk, .slice (p).sa (p).sels.length (p).sk, .slice (p).ta (p).trms.length (p).tk, .slice (p).ba (p).bers.length (p).bk, .slice (p).pa (p).prts.length (p).pk, .slice (p).aa (p).aprs.length (p).ak, .bool (p).wd, .slice (p).da (p).spds.length (p).dk, .int .i64 (p).sw, .int .i64 (p).rk, .string (p).ow, .bool (p).dm, .bool (p).pn, .bool (p).lc] _ Tryz.underlying31 rfl (by kernel_rfl) (HRp.out _ HX1.out) ?_)
            | (go_at_call 72; (with_reducible refine (HCo2.out _ HB1.out).mono ?_); rintro e w2 ⟨⟨az, kz, an, kn, rfl, hT, hI⟩, hb⟩; have HB2 := Lib.hid (HB1.out.trans (hb.mono HB1.out.size)); have HX2 := Lib.hid (HX1.out.mono hb); have HT2 := Lib.hid hT; have HI2 := Lib.hid hI; clear hb hT hI)
            | (go_at_call 73; (with_reducible refine (HZo.out _ HB2.out).mono ?_); rintro e w3 ⟨rfl, hb⟩; have HB3 := Lib.hid (HB2.out.trans (hb.mono HB2.out.size)); have HX3 := Lib.hid (HX2.out.mono hb); have HT3 := Lib.hid (HT2.out.mono hb); have HI3 := Lib.hid (HI2.out.mono hb); clear hb)
          | (go_at_call 74; (with_reducible refine (HIx.out _ _ _ HT3.out).mono ?_); rintro e w4 ⟨rfl, hb⟩; have HB4 := Lib.hid (HB3.out.trans (hb.mono HB3.out.size)); have HX4 := Lib.hid (HX3.out.mono hb); have HI4 := Lib.hid (HI3.out.mono hb); clear hb))
        obtain ⟨bn, on', rfl, hbn, hcl⟩ := HI4.out HLl.out
        have n0 : w4.cell? ⟨bn, on' + i', none⟩ = some (.int .i64 cn) := by
          have h9 := hcl i' _ HLi.out 0 (by decide)
          rw [Nat.mul_one] at h9
          exact h9
        have c6 : w4.cell? ⟨w.heap.size, 6, none⟩ = some (.slice p.la p.labs.length p.lk) := HX4.out.cell 6
        have d13 : w4.cell? ⟨w.heap.size, 13, none⟩ = some (.slice p.da p.spds.length p.dk) := HX4.out.cell 13
        have hl4 := HX4.out.lt
        clear hcl c13 hlp HIx HZo HCo2 HFi
        cases hs with
        | true =>
          have hR : decide (p.sw < (cn : Int) + 1 - mn) = R := hR
          go_upto_region 11 with (go_at_call 63; (with_reducible refine (HHa.out _ HB4.out).mono ?_); rintro e w5 ⟨rfl, hb⟩; have HB5 := Lib.hid (HB4.out.trans (hb.mono HB4.out.size)); have HX5 := Lib.hid (HX4.out.mono hb); have HI5 := Lib.hid (HI4.out.mono hb); clear hb)
          have c14 : w5.cell? ⟨w.heap.size, 14, none⟩ = some (.int .i64 p.sw) := HX5.out.cell 14
          have hl5 := HX5.out.lt
          clear n0 c6 d13 hl4
          have hcH := held_cell
          refine region_rel (by kernel_rfl) (by kernel_rfl) ?_
          repeat
            ((with_reducible refine relStep (fun K hK => ?_))
             (have HK := Lib.hid hK)
             clear hK
             (apply relInl
              · intro r n hf
                have Hf := Lib.hid hf
                clear hf
                (first
                  | (fail)
                  | (unfold relAt
                     go_simp
                     (first | (refine relUpon_val ?_ (Below.refl _ _); exact rfl) | exact rfl | (refine relUpon_enter ?_; (go_at_call 75; (with_reducible refine (HMi.out _ _ _ (HI5.out.mono n.below) hnz1).mono ?_); rintro e w9 ⟨rfl, hb⟩; exact ⟨⟨_, rfl, rfl⟩, hb⟩)))))
              (simp only [Act.put, List.setIfInBounds_toArray, List.set_cons_zero, List.set_cons_succ])
              (with_reducible refine HK.out _ _ ?_)
              clear HK K))
          refine relNil ?_
          intro r9 n9 hx9
          clear hcH
          (try simp only [List.nil_append, List.cons_append, List.mem_cons, List.not_mem_nil, or_false, forall_eq_or_imp, forall_eq, false_implies, implies_true] at hx9)
          obtain ⟨w9, hb9⟩ := n9
          (try dsimp only)
          obtain ⟨hc9, hf9⟩ := bcell hb9
          have hz9 := hb9.size
          (try simp at hz9)
          have HB9 := Lib.hid (HB5.out.trans (hb9.mono HB5.out.size))
          clear hb9 hc9 hf9 hz9
          go_wp2
          go_ret
          exact ⟨by rw [← hR]; first | done | rfl, HB9.out⟩
        | false =>
          have hR : decide (p.sw < (cn : Int) - mn) = R := by
            rw [← hR]
            show _ = decide (p.sw < (cn : Int) + 0 - mn)
            rw [Int.add_zero]
          go_upto_region 11 with (go_at_call 63; (with_reducible refine (HHa.out _ HB4.out).mono ?_); rintro e w5 ⟨rfl, hb⟩; have HB5 := Lib.hid (HB4.out.trans (hb.mono HB4.out.size)); have HX5 := Lib.hid (HX4.out.mono hb); have HI5 := Lib.hid (HI4.out.mono hb); clear hb)
          have c14 : w5.cell? ⟨w.heap.size, 14, none⟩ = some (.int .i64 p.sw) := HX5.out.cell 14
          have hl5 := HX5.out.lt
          clear n0 c6 d13 hl4
          have hcH := held_cell
          refine region_rel (by kernel_rfl) (by kernel_rfl) ?_
          repeat
            ((with_reducible refine relStep (fun K hK => ?_))
             (have HK := Lib.hid hK)
             clear hK
             (apply relInl
              · intro r n hf
                have Hf := Lib.hid hf
                clear hf
                (first
                  | (fail)
                  | (unfold relAt
                     go_simp
                     (first | (refine relUpon_val ?_ (Below.refl _ _); exact rfl) | exact rfl | (refine relUpon_enter ?_; (go_at_call 75; (with_reducible refine (HMi.out _ _ _ (HI5.out.mono n.below) hnz1).mono ?_); rintro e w9 ⟨rfl, hb⟩; exact ⟨⟨_, rfl, rfl⟩, hb⟩)))))
              (simp only [Act.put, List.setIfInBounds_toArray, List.set_cons_zero, List.set_cons_succ])
              (with_reducible refine HK.out _ _ ?_)
              clear HK K))
          refine relNil ?_
          intro r9 n9 hx9
          clear hcH
          (try simp only [List.nil_append, List.cons_append, List.mem_cons, List.not_mem_nil, or_false, forall_eq_or_imp, forall_eq, false_implies, implies_true] at hx9)
          obtain ⟨w9, hb9⟩ := n9
          (try dsimp only)
          obtain ⟨hc9, hf9⟩ := bcell hb9
          have hz9 := hb9.size
          (try simp at hz9)
          have HB9 := Lib.hid (HB5.out.trans (hb9.mono HB5.out.size))
          clear hb9 hc9 hf9 hz9
          go_wp2
          go_ret
          exact ⟨by rw [← hR]; first | done | rfl, HB9.out⟩
      · rw [if_neg hg] at hR
        subst hR
        obtain ⟨ix, hix⟩ : ∃ ix, Lb.idxI (strB zv) Z = ix := ⟨_, rfl⟩
        have hii : zb = true → ix = -1 := fun h => by
          rw [← hix]
          unfold Lb.idxI
          rw [if_neg (fun h2 => hg ⟨h, h2⟩)]
        rw [hix] at HIx
        clear hix hg hcn HCn hNl HMi HHa hmr
        cases zb with
        | true =>
          obtain rfl := hii rfl
          clear hii
          go_enter Tryz.func45, Tryz.ntmps45
          go_upto_region 1 with (fail)
          rw [← hW]
          clear hW
          go_wp2_with (first
            | (go_at_call 20; (with_reducible refine (HFi.out _ HB.out).mono ?_); rintro e w1 ⟨rfl, hb⟩; have HB1 := Lib.hid (HB.out.trans (hb.mono HB.out.size)); have HX1 := Lib.hid (HX.out.mono hb); clear hb)
              | ((with_reducible refine at_load (ty := 31) ?_); refine load_cells rfl 31 (.tmp 6) rfl w.heap.size 0 rfl [.string (p).nm, .int .i64 (p).n0, .int .i64 (p).n1, .int .i64 (p).n2, .int .i64 (p).n3, .int .i64 (p).n4, .slice (p).la (p).labs.length (p).lk, .slice (p).sa (p).sels.length (p).sk, .slice (p).ta (p).trms.length (p).tk, .slice (p).ba (p).bers.length (p).bk, .slice (p).pa (p).prts.length (p).pk, .slice (p).aa (p).aprs.length (p).ak, .bool (p).wd, .slice (p).da (p).spds.length (p).dk, .int .i64 (p).sw, .int .i64 (p).rk, .string (p).ow, .bool (p).dm, .bool (p).pn, .bool (p).lc] _ Tryz.underlying31 rfl (by kernel_rfl) (HRp.out _ HX1.out) ?_)
              | (go_at_call 72; (with_reducible refine (HCo2.out _ HB1.out).mono ?_); rintro e w2 ⟨⟨az, kz, an, kn, rfl, hT, hI⟩, hb⟩; have HB2 := Lib.hid (HB1.out.trans (hb.mono HB1.out.size)); have HX2 := Lib.hid (HX1.out.mono hb); have HT2 := Lib.hid hT; have HI2 := Lib.hid hI; clear hb hT hI)
              | (go_at_call 73; (with_reducible refine (HZo.out _ HB2.out).mono ?_); rintro e w3 ⟨rfl, hb⟩; have HB3 := Lib.hid (HB2.out.trans (hb.mono HB2.out.size)); have HX3 := Lib.hid (HX2.out.mono hb); have HT3 := Lib.hid (HT2.out.mono hb); have HI3 := Lib.hid (HI2.out.mono hb); clear hb)
            | (go_at_call 74; (with_reducible refine (HIx.out _ _ _ HT3.out).mono ?_); rintro e w4 ⟨rfl, hb⟩; have HB4 := Lib.hid (HB3.out.trans (hb.mono HB3.out.size)); clear hb))
          go_ret
          exact ⟨rfl, HB4.out⟩
        | false =>
          clear hii
          go_enter Tryz.func45, Tryz.ntmps45
          go_upto_region 1 with (fail)
          rw [← hW]
          clear hW
          go_wp2_with (first
            | (go_at_call 20; (with_reducible refine (HFi.out _ HB.out).mono ?_); rintro e w1 ⟨rfl, hb⟩; have HB1 := Lib.hid (HB.out.trans (hb.mono HB.out.size)); have HX1 := Lib.hid (HX.out.mono hb); clear hb)
              | ((with_reducible refine at_load (ty := 31) ?_); refine load_cells rfl 31 (.tmp 6) rfl w.heap.size 0 rfl [.string (p).nm, .int .i64 (p).n0, .int .i64 (p).n1, .int .i64 (p).n2, .int .i64 (p).n3, .int .i64 (p).n4, .slice (p).la (p).labs.length (p).lk, .slice (p).sa (p).sels.length (p).sk, .slice (p).ta (p).trms.length (p).tk, .slice (p).ba (p).bers.length (p).bk, .slice (p).pa (p).prts.length (p).pk, .slice (p).aa (p).aprs.length (p).ak, .bool (p).wd, .slice (p).da (p).spds.length (p).dk, .int .i64 (p).sw, .int .i64 (p).rk, .string (p).ow, .bool (p).dm, .bool (p).pn, .bool (p).lc] _ Tryz.underlying31 rfl (by kernel_rfl) (HRp.out _ HX1.out) ?_)
              | (go_at_call 72; (with_reducible refine (HCo2.out _ HB1.out).mono ?_); rintro e w2 ⟨⟨az, kz, an, kn, rfl, hT, hI⟩, hb⟩; have HB2 := Lib.hid (HB1.out.trans (hb.mono HB1.out.size)); have HX2 := Lib.hid (HX1.out.mono hb); have HT2 := Lib.hid hT; have HI2 := Lib.hid hI; clear hb hT hI)
              | (go_at_call 73; (with_reducible refine (HZo.out _ HB2.out).mono ?_); rintro e w3 ⟨rfl, hb⟩; have HB3 := Lib.hid (HB2.out.trans (hb.mono HB2.out.size)); have HX3 := Lib.hid (HX2.out.mono hb); have HT3 := Lib.hid (HT2.out.mono hb); have HI3 := Lib.hid (HI2.out.mono hb); clear hb)
            | (go_at_call 74; (with_reducible refine (HIx.out _ _ _ HT3.out).mono ?_); rintro e w4 ⟨rfl, hb⟩; have HB4 := Lib.hid (HB3.out.trans (hb.mono HB3.out.size)); clear hb))
          go_ret
          exact ⟨rfl, HB4.out⟩
set_option maxRecDepth 100000 in
set_option maxHeartbeats 4000000 in
theorem awhy_any (a c : Option Addr) (ka kc : Nat) (ms : List Mac) (bs : List Bd) (p : Pd) (on : ByteArray) (w : World) (hY : YA w a ms c bs) (hP : PodAt w p) (hp : lightP p = true) :
    Calls Tryz.prog 22 #[.slice a ms.length ka, .slice c bs.length kc, .agg (prow p).toArray, .string on] w fun e w' => e = .returned (.int .i64 (apartW ms bs p on)) ∧ Below w.heap.size w w' := by
  have h1 := fun V (hV : Below w.heap.size w V) => near_any a c ka kc ms bs p on V (hY.mono hV) (hP.mono hV) hp
  have h2 := fun V (hV : Below w.heap.size w V) => many_any a c ka kc ms bs p on V (hY.mono hV) (hP.mono hV) hp
  obtain ⟨R, hR⟩ : ∃ R, apartW ms bs p on = R := ⟨_, rfl⟩
  rw [hR]
  unfold apartW at hR
  obtain ⟨nb, hnb⟩ : ∃ x, nearB ms bs p on = x := ⟨_, rfl⟩
  obtain ⟨mb, hmb⟩ : ∃ x, manyB ms bs p on = x := ⟨_, rfl⟩
  rw [hnb] at h1
  rw [hmb] at h2
  rw [hnb, hmb] at hR
  obtain ⟨W, hW⟩ : ∃ W, W = (w.alloc (.cells #[.string (p).nm, .int .i64 (p).n0, .int .i64 (p).n1, .int .i64 (p).n2, .int .i64 (p).n3, .int .i64 (p).n4, .slice (p).la (p).labs.length (p).lk, .slice (p).sa (p).sels.length (p).sk, .slice (p).ta (p).trms.length (p).tk, .slice (p).ba (p).bers.length (p).bk, .slice (p).pa (p).prts.length (p).pk, .slice (p).aa (p).aprs.length (p).ak, .bool (p).wd, .slice (p).da (p).spds.length (p).dk, .int .i64 (p).sw, .int .i64 (p).rk, .string (p).ow, .bool (p).dm, .bool (p).pn, .bool (p).lc] 31)) := ⟨_, rfl⟩
  have hX : Box w.heap.size (prow p) W := by rw [hW]; exact (Box.new w (prow p) 31)
  have hbw : Below w.heap.size w W := by rw [hW]; (repeat' (first | with_reducible exact Below.refl _ _ | with_reducible assumption | with_reducible refine Below.drew ?_ | with_reducible refine below_drewN' ?_ _ | with_reducible refine Below.alloc ?_ ?_ _ | with_reducible refine Below.setCell ?_ ?_ _ | with_reducible refine below_step (by assumption) ?_ ?_ | omega | (simp; done) | (simp; omega)))
  have HB := Lib.hid hbw
  have HX := Lib.hid hX
  have HRp := Lib.hid (fun V (h : Box w.heap.size (prow p) V) => show V.rangeAt w.heap.size 0 [.string (p).nm, .int .i64 (p).n0, .int .i64 (p).n1, .int .i64 (p).n2, .int .i64 (p).n3, .int .i64 (p).n4, .slice (p).la (p).labs.length (p).lk, .slice (p).sa (p).sels.length (p).sk, .slice (p).ta (p).trms.length (p).tk, .slice (p).ba (p).bers.length (p).bk, .slice (p).pa (p).prts.length (p).pk, .slice (p).aa (p).aprs.length (p).ak, .bool (p).wd, .slice (p).da (p).spds.length (p).dk, .int .i64 (p).sw, .int .i64 (p).rk, .string (p).ow, .bool (p).dm, .bool (p).pn, .bool (p).lc] from h.range)
  obtain ⟨N, hN⟩ : ∃ N, bs.length = N := ⟨_, rfl⟩
  obtain ⟨n, hn⟩ : ∃ n, ms.length = n := ⟨_, rfl⟩
  rw [hn, hN] at h1 h2 ⊢
  have H1 := Lib.hid (show ∀ V, Below w.heap.size w V → Calls Tryz.prog 44 #[.slice a n ka, .slice c N kc, .agg #[.string (p).nm, .int .i64 (p).n0, .int .i64 (p).n1, .int .i64 (p).n2, .int .i64 (p).n3, .int .i64 (p).n4, .slice (p).la (p).labs.length (p).lk, .slice (p).sa (p).sels.length (p).sk, .slice (p).ta (p).trms.length (p).tk, .slice (p).ba (p).bers.length (p).bk, .slice (p).pa (p).prts.length (p).pk, .slice (p).aa (p).aprs.length (p).ak, .bool (p).wd, .slice (p).da (p).spds.length (p).dk, .int .i64 (p).sw, .int .i64 (p).rk, .string (p).ow, .bool (p).dm, .bool (p).pn, .bool (p).lc], .string on] V fun e w' => e = .returned (.bool nb) ∧ Below V.heap.size V w' from h1)
  have H2 := Lib.hid (show ∀ V, Below w.heap.size w V → Calls Tryz.prog 45 #[.slice a n ka, .slice c N kc, .agg #[.string (p).nm, .int .i64 (p).n0, .int .i64 (p).n1, .int .i64 (p).n2, .int .i64 (p).n3, .int .i64 (p).n4, .slice (p).la (p).labs.length (p).lk, .slice (p).sa (p).sels.length (p).sk, .slice (p).ta (p).trms.length (p).tk, .slice (p).ba (p).bers.length (p).bk, .slice (p).pa (p).prts.length (p).pk, .slice (p).aa (p).aprs.length (p).ak, .bool (p).wd, .slice (p).da (p).spds.length (p).dk, .int .i64 (p).sw, .int .i64 (p).rk, .string (p).ow, .bool (p).dm, .bool (p).pn, .bool (p).lc], .string on] V fun e w' => e = .returned (.bool mb) ∧ Below V.heap.size V w' from h2)
  show Calls Tryz.prog 22 #[.slice a n ka, .slice c N kc, .agg #[.string (p).nm, .int .i64 (p).n0, .int .i64 (p).n1, .int .i64 (p).n2, .int .i64 (p).n3, .int .i64 (p).n4, .slice (p).la (p).labs.length (p).lk, .slice (p).sa (p).sels.length (p).sk, .slice (p).ta (p).trms.length (p).tk, .slice (p).ba (p).bers.length (p).bk, .slice (p).pa (p).prts.length (p).pk, .slice (p).aa (p).aprs.length (p).ak, .bool (p).wd, .slice (p).da (p).spds.length (p).dk, .int .i64 (p).sw, .int .i64 (p).rk, .string (p).ow, .bool (p).dm, .bool (p).pn, .bool (p).lc], .string on] w _
  clear h1 h2 hnb hmb hX hbw hN hn hY hP hp
  cases nb with
  | true =>
    obtain rfl : R = 7 := by rw [← hR]; rfl
    clear hR
    go_enter Tryz.func22, Tryz.ntmps22
    go_upto_region 1 with (fail)
    rw [← hW]
    clear hW
    go_wp2_with (first
      | ((with_reducible refine at_load (ty := 31) ?_); refine load_cells rfl 31 (.tmp 6) rfl w.heap.size 0 rfl [.string (p).nm, .int .i64 (p).n0, .int .i64 (p).n1, .int .i64 (p).n2, .int .i64 (p).n3, .int .i64 (p).n4, .slice (p).la (p).labs.length (p).lk, .slice (p).sa (p).sels.length (p).sk, .slice (p).ta (p).trms.length (p).tk, .slice (p).ba (p).bers.length (p).bk, .slice (p).pa (p).prts.length (p).pk, .slice (p).aa (p).aprs.length (p).ak, .bool (p).wd, .slice (p).da (p).spds.length (p).dk, .int .i64 (p).sw, .int .i64 (p).rk, .string (p).ow, .bool (p).dm, .bool (p).pn, .bool (p).lc] _ Tryz.underlying31 rfl (by kernel_rfl) (by first | exact HRp.out _ HX1.out | exact HRp.out _ HX.out) ?_)
      | (go_at_call 44; (with_reducible refine (H1.out _ HB.out).mono ?_); rintro e w1 ⟨rfl, hb⟩; have HB1 := Lib.hid (HB.out.trans (hb.mono HB.out.size)); have HX1 := Lib.hid (HX.out.mono hb); clear hb)
      | (go_at_call 45; (with_reducible refine (H2.out _ HB1.out).mono ?_); rintro e w2 ⟨rfl, hb⟩; have HB2 := Lib.hid (HB1.out.trans (hb.mono HB1.out.size)); clear hb))
    go_ret
    exact ⟨rfl, by first | exact HB2.out | exact HB1.out⟩
  | false =>
    cases mb with
    | true =>
      obtain rfl : R = 8 := by rw [← hR]; rfl
      clear hR
      go_enter Tryz.func22, Tryz.ntmps22
      go_upto_region 1 with (fail)
      rw [← hW]
      clear hW
      go_wp2_with (first
        | ((with_reducible refine at_load (ty := 31) ?_); refine load_cells rfl 31 (.tmp 6) rfl w.heap.size 0 rfl [.string (p).nm, .int .i64 (p).n0, .int .i64 (p).n1, .int .i64 (p).n2, .int .i64 (p).n3, .int .i64 (p).n4, .slice (p).la (p).labs.length (p).lk, .slice (p).sa (p).sels.length (p).sk, .slice (p).ta (p).trms.length (p).tk, .slice (p).ba (p).bers.length (p).bk, .slice (p).pa (p).prts.length (p).pk, .slice (p).aa (p).aprs.length (p).ak, .bool (p).wd, .slice (p).da (p).spds.length (p).dk, .int .i64 (p).sw, .int .i64 (p).rk, .string (p).ow, .bool (p).dm, .bool (p).pn, .bool (p).lc] _ Tryz.underlying31 rfl (by kernel_rfl) (by first | exact HRp.out _ HX1.out | exact HRp.out _ HX.out) ?_)
        | (go_at_call 44; (with_reducible refine (H1.out _ HB.out).mono ?_); rintro e w1 ⟨rfl, hb⟩; have HB1 := Lib.hid (HB.out.trans (hb.mono HB.out.size)); have HX1 := Lib.hid (HX.out.mono hb); clear hb)
        | (go_at_call 45; (with_reducible refine (H2.out _ HB1.out).mono ?_); rintro e w2 ⟨rfl, hb⟩; have HB2 := Lib.hid (HB1.out.trans (hb.mono HB1.out.size)); clear hb))
      go_ret
      exact ⟨rfl, by first | exact HB2.out | exact HB1.out⟩
    | false =>
      obtain rfl : R = 0 := by rw [← hR]; rfl
      clear hR
      go_enter Tryz.func22, Tryz.ntmps22
      go_upto_region 1 with (fail)
      rw [← hW]
      clear hW
      go_wp2_with (first
        | ((with_reducible refine at_load (ty := 31) ?_); refine load_cells rfl 31 (.tmp 6) rfl w.heap.size 0 rfl [.string (p).nm, .int .i64 (p).n0, .int .i64 (p).n1, .int .i64 (p).n2, .int .i64 (p).n3, .int .i64 (p).n4, .slice (p).la (p).labs.length (p).lk, .slice (p).sa (p).sels.length (p).sk, .slice (p).ta (p).trms.length (p).tk, .slice (p).ba (p).bers.length (p).bk, .slice (p).pa (p).prts.length (p).pk, .slice (p).aa (p).aprs.length (p).ak, .bool (p).wd, .slice (p).da (p).spds.length (p).dk, .int .i64 (p).sw, .int .i64 (p).rk, .string (p).ow, .bool (p).dm, .bool (p).pn, .bool (p).lc] _ Tryz.underlying31 rfl (by kernel_rfl) (by first | exact HRp.out _ HX1.out | exact HRp.out _ HX.out) ?_)
        | (go_at_call 44; (with_reducible refine (H1.out _ HB.out).mono ?_); rintro e w1 ⟨rfl, hb⟩; have HB1 := Lib.hid (HB.out.trans (hb.mono HB.out.size)); have HX1 := Lib.hid (HX.out.mono hb); clear hb)
        | (go_at_call 45; (with_reducible refine (H2.out _ HB1.out).mono ?_); rintro e w2 ⟨rfl, hb⟩; have HB2 := Lib.hid (HB1.out.trans (hb.mono HB1.out.size)); clear hb))
      go_ret
      exact ⟨rfl, by first | exact HB2.out | exact HB1.out⟩
end Go.Proofs.YthbpnfpalcgfeaaGreat
