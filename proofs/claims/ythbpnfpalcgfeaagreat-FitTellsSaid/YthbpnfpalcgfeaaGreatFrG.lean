/-
  The document's Many; its Why of apart.
-/
import Derived.Test.YthbpnfpalcgfeaaGreatFrF
import Derived.Test.YthbpnfpalcgfeaaGreatFrD
namespace Go.Proofs.YthbpnfpalcgfeaaGreat
open Go.RowKit
set_option linter.unusedVariables false
set_option linter.unusedSimpArgs false

def mineV (zb : Bool) (Z : List ByteArray) (zv : ByteArray) (cn : Nat) (k : Nat) : Int := if (zb && (Z.take k).any (strB zv)) = true then (cn : Int) else -1
theorem mine_next {zb : Bool} {Z : List ByteArray} {zv z : ByteArray} {cn k : Nat} (h : Z[k]? = some z) : mineV zb Z zv cn (k + 1) = if (zb && decide (zv = z)) = true then (cn : Int) else mineV zb Z zv cn k := by
  unfold mineV
  rw [List.take_add_one, h, List.any_append]
  show (if (zb && ((Z.take k).any (strB zv) || (decide (zv = z) || false))) = true then (cn : Int) else -1) = _
  cases zb <;> cases (Z.take k).any (strB zv) <;> cases decide (zv = z) <;> rfl
theorem least_next {l : List Int} {k : Nat} {y : Int} (h : l[k]? = some y) : minL (l.take (k + 1)) = if k = 0 ∨ y < minL (l.take k) then y else minL (l.take k) := by
  by_cases hk : k = 0
  · subst hk
    rw [if_pos (.inl rfl)]
    match l, h with
    | [], h => simp at h
    | x :: l, h =>
      obtain rfl : x = y := by simpa using h
      rfl
  · rw [min_next h (by omega)]
    unfold minS
    by_cases hy : y < minL (l.take k)
    · rw [if_pos hy, if_pos (.inr hy)]
    · rw [if_neg hy, if_neg (fun e => e.elim hk hy)]
set_option maxRecDepth 100000 in
set_option maxHeartbeats 16000000 in
theorem refmany_any (a c : Option Addr) (ka kc : Nat) (ms : List Mac) (bs : List Bd) (p : Pd) (on : ByteArray) (w : World) (hY : YA w a ms c bs) (hP : PodAt w p) (hp : lightP p = true) (hq : YQ ms bs) (hpq : PQ p) :
    Calls Tryz.prog 49 #[.slice a ms.length ka, .slice c bs.length kc, .agg (prow p).toArray, .string on] w fun e w' => e = .returned (.bool (manyB ms bs p on)) ∧ Below w.heap.size w w' := by
  have hfi := fun V (hV : Below w.heap.size w V) => rfind_any a ka ms on V (hY.ml.mono hV) (by have := hY.mm; omega)
  have hco := fun V (hV : Below w.heap.size w V) => refcounts_any a c ka kc ms bs p V (hY.mono hV) (hP.mono hV) hp hq
  have hzo := fun V (hV : Below w.heap.size w V) => refzone_any a ka ms on V (hY.ml.mono hV) (fun m hm => ((hY.mi m hm).mono hV).here) (by have := hY.mm; omega)
  have hha := fun V (hV : Below w.heap.size w V) => Lb.refhas_any p.la p.da p.lk p.dk p.labs p.spds V (hP.mono hV).labs (hP.mono hV).spds (by have := lightP_lens hp; omega) (by have := lightP_lens hp; omega) hpq.so
  have hNl : (numsC ms bs p).length = (zonesY ms).length := by unfold numsC; rw [List.length_map]
  have hZl := zonesY_len ms
  have hml := hY.mm
  have hmr := minL_range (numsC ms bs p) (1000 * 1000) (by omega) (fun x hx => by
    unfold numsC at hx
    obtain ⟨z, _, rfl⟩ := List.mem_map.1 hx
    have h9 := zCnt_le ms bs p z
    have h8 := Nat.mul_le_mul hY.mm hY.bb
    omega)
  obtain ⟨R, hR⟩ : ∃ R, manyB ms bs p on = R := ⟨_, rfl⟩
  rw [hR]
  unfold manyB at hR
  obtain ⟨W, hW⟩ : ∃ W, W = (w.alloc (.cells #[.string (p).nm, .int .i64 (p).n0, .int .i64 (p).n1, .int .i64 (p).n2, .int .i64 (p).n3, .int .i64 (p).n4, .slice (p).la (p).labs.length (p).lk, .slice (p).sa (p).sels.length (p).sk, .slice (p).ta (p).trms.length (p).tk, .slice (p).ba (p).bers.length (p).bk, .slice (p).pa (p).prts.length (p).pk, .slice (p).aa (p).aprs.length (p).ak, .bool (p).wd, .slice (p).da (p).spds.length (p).dk, .int .i64 (p).sw, .int .i64 (p).rk, .string (p).ow, .bool (p).dm, .bool (p).pn, .bool (p).lc] 31)) := ⟨_, rfl⟩
  have hX : Box w.heap.size (prow p) W := by rw [hW]; exact (Box.new w (prow p) 31)
  have hbw : Below w.heap.size w W := by rw [hW]; exact (Below.refl _ _).alloc (Nat.le_refl _) _
  have HB := Lib.hid hbw
  have HX := Lib.hid hX
  have c13 : W.cell? ⟨w.heap.size, 13, none⟩ = some (.slice p.da p.spds.length p.dk) := hX.cell 13
  have hlp := hX.lt
  obtain ⟨N, hN⟩ : ∃ N, bs.length = N := ⟨_, rfl⟩
  obtain ⟨n, hn⟩ : ∃ n, ms.length = n := ⟨_, rfl⟩
  rw [hn] at hfi hzo
  rw [hn, hN] at hco
  rw [hn, hN]
  show Calls Tryz.prog 49 #[.slice a n ka, .slice c N kc, .agg #[.string (p).nm, .int .i64 (p).n0, .int .i64 (p).n1, .int .i64 (p).n2, .int .i64 (p).n3, .int .i64 (p).n4, .slice (p).la (p).labs.length (p).lk, .slice (p).sa (p).sels.length (p).sk, .slice (p).ta (p).trms.length (p).tk, .slice (p).ba (p).bers.length (p).bk, .slice (p).pa (p).prts.length (p).pk, .slice (p).aa (p).aprs.length (p).ak, .bool (p).wd, .slice (p).da (p).spds.length (p).dk, .int .i64 (p).sw, .int .i64 (p).rk, .string (p).ow, .bool (p).dm, .bool (p).pn, .bool (p).lc], .string on] w _
  by_cases h0 : p.spds.length = 0
  · have q0 : ((p.spds.length : Int) == 0) = true := by rw [h0]; rfl
    rw [if_pos h0] at hR
    subst hR
    clear hfi hco hzo hha hNl hZl hml hmr hX hbw hY hP hp hq hpq hN hn h0
    go_enter Tryz.func49, Tryz.ntmps49
    go_upto_region 1 with (fail)
    rw [← hW]
    clear hW
    go_wp2
    go_ret
    exact ⟨rfl, HB.out⟩
  · have q0 : ((p.spds.length : Int) == 0) = false := by rw [beq_eq_false_iff_ne]; omega
    rw [if_neg h0] at hR
    clear h0
    rcases find_cases ms on with ⟨h1, h2⟩ | ⟨i, m, h1, h2, h3, h4⟩
    · rw [if_pos (by rw [h2]; rfl)] at hR
      subst hR
      rw [h1] at hfi
      have HFi := Lib.hid hfi
      clear hfi hco hzo hha hNl hZl hml hmr hX hbw hY hP hp hq hpq hN hn h1 h2
      go_enter Tryz.func49, Tryz.ntmps49
      go_upto_region 1 with (fail)
      rw [← hW]
      clear hW
      go_wp2_with (go_at_call 23; (with_reducible refine (HFi.out _ HB.out).mono ?_); rintro e w1 ⟨rfl, hb⟩; have HB1 := Lib.hid (HB.out.trans (hb.mono HB.out.size)); clear hb)
      go_ret
      exact ⟨rfl, HB1.out⟩
    · rw [if_neg (by rw [h4]; exact Bool.false_ne_true)] at hR
      rw [h1] at hfi
      have HFi := Lib.hid hfi
      have HZo := Lib.hid hzo
      have HHa := Lib.hid hha
      have HNums := Lib.hid (show ∀ (j : Nat) z, (zonesY ms)[j]? = some z → (numsC ms bs p)[j]? = some (zCnt ms bs p z : Int) from fun j z hz => by
        unfold numsC
        rw [List.getElem?_map, hz]
        rfl)
      have hzn := zCnt_le ms bs p (zV ms on)
      have hzn2 := Nat.mul_le_mul hY.mm hY.bb
      unfold zNum at hR
      obtain ⟨Z, hZ⟩ : ∃ Z, zonesY ms = Z := ⟨_, rfl⟩
      obtain ⟨L, hL⟩ : ∃ L, numsC ms bs p = L := ⟨_, rfl⟩
      obtain ⟨zv, hzv⟩ : ∃ z, zV ms on = z := ⟨_, rfl⟩
      obtain ⟨zb, hzb⟩ : ∃ z, zB ms on = z := ⟨_, rfl⟩
      obtain ⟨hs, hhs⟩ : ∃ z, Lb.hasP p.labs p.spds = z := ⟨_, rfl⟩
      obtain ⟨mn, hmn⟩ : ∃ z, minL L = z := ⟨_, rfl⟩
      obtain ⟨f, hf⟩ : ∃ f, zCnt ms bs p = f := ⟨_, rfl⟩
      have HCn := Lib.hid (show ∀ (j : Nat) z, Z[j]? = some z → L[j]? = some (f z : Int) by rw [← hZ, ← hL, ← hf]; exact HNums.out)
      obtain ⟨cn, hcn⟩ : ∃ z, f zv = z := ⟨_, rfl⟩
      have HFz := Lib.hid hcn
      rw [hZ, hL, hzv, hzb, hhs, hmn, hf, hcn] at hR
      rw [hzv, hf, hcn] at hzn
      rw [hzv, hzb] at HZo
      rw [hhs] at HHa
      rw [hL, hZ] at hNl
      rw [hL, hmn] at hmr
      rw [hZ, hL] at hco
      rw [hZ] at hZl
      obtain ⟨nz, hnz⟩ : ∃ nz, Z.length = nz := ⟨_, rfl⟩
      rw [hnz] at hNl hZl
      have Hnz := Lib.hid hnz
      have HLl := Lib.hid hNl
      have HMn := Lib.hid hmn
      have HCo2 := Lib.hid (show ∀ V, Below w.heap.size w V → Calls Tryz.prog 85 #[.slice a n ka, .slice c N kc, .agg #[.string (p).nm, .int .i64 (p).n0, .int .i64 (p).n1, .int .i64 (p).n2, .int .i64 (p).n3, .int .i64 (p).n4, .slice (p).la (p).labs.length (p).lk, .slice (p).sa (p).sels.length (p).sk, .slice (p).ta (p).trms.length (p).tk, .slice (p).ba (p).bers.length (p).bk, .slice (p).pa (p).prts.length (p).pk, .slice (p).aa (p).aprs.length (p).ak, .bool (p).wd, .slice (p).da (p).spds.length (p).dk, .int .i64 (p).sw, .int .i64 (p).rk, .string (p).ow, .bool (p).dm, .bool (p).pn, .bool (p).lc]] V fun e w' => (∃ az kz an kn, e = .returned (.tuple #[.slice az nz kz, .slice an nz kn]) ∧ TxtL w' az Z ∧ IntL w' an L) ∧ Below V.heap.size V w' from fun V hV => (hco V hV).mono fun e w' h => by
        obtain ⟨⟨az, kz, an, kn, e1, h1, h2⟩, h3⟩ := h
        exact ⟨⟨az, kz, an, kn, by rw [e1, hnz, hNl], h1, h2⟩, h3⟩)
      have HRp := Lib.hid (fun V (h : Box w.heap.size (prow p) V) => show V.rangeAt w.heap.size 0 [.string (p).nm, .int .i64 (p).n0, .int .i64 (p).n1, .int .i64 (p).n2, .int .i64 (p).n3, .int .i64 (p).n4, .slice (p).la (p).labs.length (p).lk, .slice (p).sa (p).sels.length (p).sk, .slice (p).ta (p).trms.length (p).tk, .slice (p).ba (p).bers.length (p).bk, .slice (p).pa (p).prts.length (p).pk, .slice (p).aa (p).aprs.length (p).ak, .bool (p).wd, .slice (p).da (p).spds.length (p).dk, .int .i64 (p).sw, .int .i64 (p).rk, .string (p).ow, .bool (p).dm, .bool (p).pn, .bool (p).lc] from h.range)
      clear hfi hco hzo hha hX hbw hY hP hp hq hpq hN hn h1 h2 h3 h4 hZ hL hzv hzb hhs hmn hnz hNl hcn hf HNums
      go_enter Tryz.func49, Tryz.ntmps49
      go_upto_region 1 with (fail)
      rw [← hW]
      clear hW
      go_wp2_with (first
        | (go_at_call 23; (with_reducible refine (HFi.out _ HB.out).mono ?_); rintro e w1 ⟨rfl, hb⟩; have HB1 := Lib.hid (HB.out.trans (hb.mono HB.out.size)); have HX1 := Lib.hid (HX.out.mono hb); clear hb)
        | (go_at_call 84; (with_reducible refine (HZo.out _ HB1.out).mono ?_); rintro e w2 ⟨rfl, hb⟩; have HB2 := Lib.hid (HB1.out.trans (hb.mono HB1.out.size)); have HX2 := Lib.hid (HX1.out.mono hb); clear hb)
        | ((with_reducible refine at_load (ty := 31) ?_); refine load_cells rfl 31 (.tmp 6) rfl w.heap.size 0 rfl [.string (p).nm, .int .i64 (p).n0, .int .i64 (p).n1, .int .i64 (p).n2, .int .i64 (p).n3, .int .i64 (p).n4, .slice (p).la (p).labs.length (p).lk, .slice (p).sa (p).sels.length (p).sk, .slice (p).ta (p).trms.length (p).tk, .slice (p).ba (p).bers.length (p).bk, .slice (p).pa (p).prts.length (p).pk, .slice (p).aa (p).aprs.length (p).ak, .bool (p).wd, .slice (p).da (p).spds.length (p).dk, .int .i64 (p).sw, .int .i64 (p).rk, .string (p).ow, .bool (p).dm, .bool (p).pn, .bool (p).lc] _ Tryz.underlying31 rfl (by kernel_rfl) (HRp.out _ HX2.out) ?_)
        | (go_at_call 85; (with_reducible refine (HCo2.out _ HB2.out).mono ?_); rintro e w3 ⟨⟨az, kz, an, kn, rfl, hT, hI⟩, hb⟩; have HB3 := Lib.hid (HB2.out.trans (hb.mono HB2.out.size)); have HX3 := Lib.hid (HX2.out.mono hb); have HT3 := Lib.hid hT; have HI3 := Lib.hid hI; clear hb hT hI))
      obtain ⟨V3, hV3⟩ : ∃ V3, V3 = w3 := ⟨_, rfl⟩
      rw [← hV3] at HT3 HI3 HB3 HX3 ⊢
      clear hV3 HB HX HB1 HX1 HB2 HX2 HFi HZo HCo2 c13 hlp
      go_loopw [13, 14, 15] (fun vm vl vi wr => ∃ k : Nat, k ≤ nz ∧ vi = .int .i64 k ∧ vm = .int .i64 (mineV zb Z zv cn k) ∧ vl = .int .i64 (minL (L.take k)) ∧ wr = V3) (fun _ _ vi _ => nz - (intOf vi).toNat)
      case atStart => exact ⟨0, Nat.zero_le _, rfl, by cases zb <;> rfl, rfl, rfl⟩
      case round =>
        obtain ⟨k, hk, rfl, rfl, rfl, rfl⟩ := hrel
        by_cases hlt : k < nz
        · obtain ⟨z, hz⟩ := mem_at (l := Z) (k := k) (by rw [Hnz.out]; exact hlt)
          have hLk := HCn.out k z hz
          obtain ⟨qz, oz, rfl, hqz, hcz⟩ := HT3.out (by rw [Hnz.out]; omega)
          obtain ⟨ql, ol, rfl, hql, hcl⟩ := HI3.out (by rw [HLl.out]; omega)
          have c0 : wr.cell? ⟨qz, oz + k, none⟩ = some (.string z) := by
            have h9 := hcz k z hz 0 (by decide)
            rw [Nat.mul_one] at h9
            exact h9
          have n0 : wr.cell? ⟨ql, ol + k, none⟩ = some (.int .i64 (f z : Int)) := by
            have h9 := hcl k _ hLk 0 (by decide)
            rw [Nat.mul_one] at h9
            exact h9
          have hmi := mine_next (zb := zb) (zv := zv) (cn := cn) hz
          have hli := least_next hLk
          have hfe : zv = z → f z = cn := fun e => by rw [← e]; exact HFz.out
          obtain ⟨y, hy⟩ : ∃ y : Nat, f z = y := ⟨_, rfl⟩
          obtain ⟨mi, hmi'⟩ : ∃ x, mineV zb Z zv cn k = x := ⟨_, rfl⟩
          obtain ⟨le, hle'⟩ : ∃ x, minL (L.take k) = x := ⟨_, rfl⟩
          rw [hy] at n0 hli hfe
          rw [hmi'] at hmi ⊢
          rw [hle'] at hli ⊢
          have HMi := Lib.hid hmi
          have HLi := Lib.hid hli
          clear hz hLk hcz hcl hmi hli hmi' hle' hy
          have C1 : (((k : Int) == 0) = true ∧ minL (L.take (k + 1)) = (y : Int)) ∨ (((k : Int) == 0) = false ∧ (y : Int) < le ∧ minL (L.take (k + 1)) = (y : Int)) ∨ (((k : Int) == 0) = false ∧ ¬ (y : Int) < le ∧ minL (L.take (k + 1)) = le) := by
            by_cases hk0 : k = 0
            · exact .inl ⟨by rw [hk0]; rfl, by rw [HLi.out, if_pos (.inl hk0)]⟩
            · have e : ((k : Int) == 0) = false := by rw [beq_eq_false_iff_ne]; omega
              by_cases hyl : (y : Int) < le
              · exact .inr (.inl ⟨e, hyl, by rw [HLi.out, if_pos (.inr hyl)]⟩)
              · exact .inr (.inr ⟨e, hyl, by rw [HLi.out, if_neg (fun e => e.elim hk0 hyl)]⟩)
          have C2 : (zb = false ∧ mineV zb Z zv cn (k + 1) = mi) ∨ (zb = true ∧ (z.toList == zv.toList) = true ∧ mineV zb Z zv cn (k + 1) = (y : Int)) ∨ (zb = true ∧ (z.toList == zv.toList) = false ∧ mineV zb Z zv cn (k + 1) = mi) := by
            cases zb with
            | false => exact .inl ⟨rfl, HMi.out⟩
            | true =>
              by_cases he : z = zv
              · refine .inr (.inl ⟨rfl, str_yes he, ?_⟩)
                rw [HMi.out, decide_eq_true he.symm, hfe he.symm]
                rfl
              · refine .inr (.inr ⟨rfl, str_no he, ?_⟩)
                rw [HMi.out, decide_eq_false (fun e => he e.symm)]
                rfl
          clear HMi HLi hfe
          rcases C1 with ⟨q1, e1⟩ | ⟨q1, q2, e1⟩ | ⟨q1, q2, e1⟩ <;> rcases C2 with ⟨rfl, e2⟩ | ⟨rfl, q3, e2⟩ | ⟨rfl, q3, e2⟩
          all_goals
            have E1 := Lib.hid e1
            have E2 := Lib.hid e2
            clear e1 e2
            go_wp2
            go_roundw
            case rel => exact ⟨k + 1, by omega, by go_num, by rw [E2.out], by rw [E1.out], by trivial⟩
            case measure => simp [intOf]; omega
        · obtain rfl : k = nz := by omega
          have hmv : mineV zb Z zv cn k = if zb = true ∧ Z.any (strB zv) = true then (cn : Int) else -1 := by
            unfold mineV
            rw [List.take_of_length_le (Nat.le_of_eq Hnz.out)]
            simp only [Bool.and_eq_true]
          have hmn : minL (L.take k) = mn := by rw [List.take_of_length_le (Nat.le_of_eq HLl.out)]; exact HMn.out
          rw [hmv, hmn]
          clear hmv hmn
          by_cases hg : zb = true ∧ Z.any (strB zv) = true
          · rw [if_pos hg] at hR
            rw [if_pos hg]
            have hw1 : IntKind.i64.wrap ((cn : Int) + 1) = (cn : Int) + 1 := wrap_in (by omega) (by omega)
            have hw2 : IntKind.i64.wrap ((cn : Int) + 1 - mn) = (cn : Int) + 1 - mn := wrap_in (by omega) (by omega)
            have hw3 : IntKind.i64.wrap ((cn : Int) - mn) = (cn : Int) - mn := wrap_in (by omega) (by omega)
            have hi0 : ((cn : Int) < 0) = False := by simp
            have c6 : wr.cell? ⟨w.heap.size, 6, none⟩ = some (.slice p.la p.labs.length p.lk) := HX3.out.cell 6
            have d13 : wr.cell? ⟨w.heap.size, 13, none⟩ = some (.slice p.da p.spds.length p.dk) := HX3.out.cell 13
            have hl4 := HX3.out.lt
            clear hg
            cases hs with
            | true =>
              have hR : decide (p.sw < (cn : Int) + 1 - mn) = R := hR
              go_upto_region 17 with (go_at_call 76; (with_reducible refine (HHa.out _ HB3.out).mono ?_); rintro e w5 ⟨rfl, hb⟩; have HB5 := Lib.hid (HB3.out.trans (hb.mono HB3.out.size)); have HX5 := Lib.hid (HX3.out.mono hb); clear hb)
              have c14 : w5.cell? ⟨w.heap.size, 14, none⟩ = some (.int .i64 p.sw) := HX5.out.cell 14
              have hl5 := HX5.out.lt
              clear c6 d13 hl4
              go_wp2
              go_ret
              exact ⟨by rw [← hR]; first | done | rfl, HB5.out⟩
            | false =>
              have hR : decide (p.sw < (cn : Int) - mn) = R := by
                rw [← hR]
                show _ = decide (p.sw < (cn : Int) + 0 - mn)
                rw [Int.add_zero]
              go_upto_region 18 with (go_at_call 76; (with_reducible refine (HHa.out _ HB3.out).mono ?_); rintro e w5 ⟨rfl, hb⟩; have HB5 := Lib.hid (HB3.out.trans (hb.mono HB3.out.size)); have HX5 := Lib.hid (HX3.out.mono hb); clear hb)
              have c14 : w5.cell? ⟨w.heap.size, 14, none⟩ = some (.int .i64 p.sw) := HX5.out.cell 14
              have hl5 := HX5.out.lt
              clear c6 d13 hl4
              go_wp2
              go_ret
              exact ⟨by rw [← hR]; first | done | rfl, HB5.out⟩
          · rw [if_neg hg] at hR
            rw [if_neg hg]
            subst hR
            clear hg
            go_wp2
            go_ret
            exact ⟨rfl, HB3.out⟩
set_option maxRecDepth 100000 in
set_option maxHeartbeats 4000000 in
theorem refawhy_any (a c : Option Addr) (ka kc : Nat) (ms : List Mac) (bs : List Bd) (p : Pd) (on : ByteArray) (w : World) (hY : YA w a ms c bs) (hP : PodAt w p) (hp : lightP p = true) (hq : YQ ms bs) (hpq : PQ p) :
    Calls Tryz.prog 25 #[.slice a ms.length ka, .slice c bs.length kc, .agg (prow p).toArray, .string on] w fun e w' => e = .returned (.int .i64 (apartW ms bs p on)) ∧ Below w.heap.size w w' := by
  have h1 := fun V (hV : Below w.heap.size w V) => refnear_any a c ka kc ms bs p on V (hY.mono hV) (hP.mono hV) hp hq hpq
  have h2 := fun V (hV : Below w.heap.size w V) => refmany_any a c ka kc ms bs p on V (hY.mono hV) (hP.mono hV) hp hq hpq
  obtain ⟨R, hR⟩ : ∃ R, apartW ms bs p on = R := ⟨_, rfl⟩
  rw [hR]
  unfold apartW at hR
  obtain ⟨nb, hnb⟩ : ∃ x, nearB ms bs p on = x := ⟨_, rfl⟩
  obtain ⟨mb, hmb⟩ : ∃ x, manyB ms bs p on = x := ⟨_, rfl⟩
  rw [hnb] at h1
  rw [hmb] at h2
  rw [hnb, hmb] at hR
  obtain ⟨W, hW⟩ : ∃ W, W = (w.alloc (.cells #[.string (p).nm, .int .i64 (p).n0, .int .i64 (p).n1, .int .i64 (p).n2, .int .i64 (p).n3, .int .i64 (p).n4, .slice (p).la (p).labs.length (p).lk, .slice (p).sa (p).sels.length (p).sk, .slice (p).ta (p).trms.length (p).tk, .slice (p).ba (p).bers.length (p).bk, .slice (p).pa (p).prts.length (p).pk, .slice (p).aa (p).aprs.length (p).ak, .bool (p).wd, .slice (p).da (p).spds.length (p).dk, .int .i64 (p).sw, .int .i64 (p).rk, .string (p).ow, .bool (p).dm, .bool (p).pn, .bool (p).lc] 31)) := ⟨_, rfl⟩
  have hX : Box w.heap.size (prow p) W := by rw [hW]; exact (Box.new w (prow p) 31)
  have hbw : Below w.heap.size w W := by rw [hW]; exact (Below.refl _ _).alloc (Nat.le_refl _) _
  have HB := Lib.hid hbw
  have HX := Lib.hid hX
  have HRp := Lib.hid (fun V (h : Box w.heap.size (prow p) V) => show V.rangeAt w.heap.size 0 [.string (p).nm, .int .i64 (p).n0, .int .i64 (p).n1, .int .i64 (p).n2, .int .i64 (p).n3, .int .i64 (p).n4, .slice (p).la (p).labs.length (p).lk, .slice (p).sa (p).sels.length (p).sk, .slice (p).ta (p).trms.length (p).tk, .slice (p).ba (p).bers.length (p).bk, .slice (p).pa (p).prts.length (p).pk, .slice (p).aa (p).aprs.length (p).ak, .bool (p).wd, .slice (p).da (p).spds.length (p).dk, .int .i64 (p).sw, .int .i64 (p).rk, .string (p).ow, .bool (p).dm, .bool (p).pn, .bool (p).lc] from h.range)
  obtain ⟨N, hN⟩ : ∃ N, bs.length = N := ⟨_, rfl⟩
  obtain ⟨n, hn⟩ : ∃ n, ms.length = n := ⟨_, rfl⟩
  rw [hn, hN] at h1 h2 ⊢
  have H1 := Lib.hid (show ∀ V, Below w.heap.size w V → Calls Tryz.prog 48 #[.slice a n ka, .slice c N kc, .agg #[.string (p).nm, .int .i64 (p).n0, .int .i64 (p).n1, .int .i64 (p).n2, .int .i64 (p).n3, .int .i64 (p).n4, .slice (p).la (p).labs.length (p).lk, .slice (p).sa (p).sels.length (p).sk, .slice (p).ta (p).trms.length (p).tk, .slice (p).ba (p).bers.length (p).bk, .slice (p).pa (p).prts.length (p).pk, .slice (p).aa (p).aprs.length (p).ak, .bool (p).wd, .slice (p).da (p).spds.length (p).dk, .int .i64 (p).sw, .int .i64 (p).rk, .string (p).ow, .bool (p).dm, .bool (p).pn, .bool (p).lc], .string on] V fun e w' => e = .returned (.bool nb) ∧ Below V.heap.size V w' from h1)
  have H2 := Lib.hid (show ∀ V, Below w.heap.size w V → Calls Tryz.prog 49 #[.slice a n ka, .slice c N kc, .agg #[.string (p).nm, .int .i64 (p).n0, .int .i64 (p).n1, .int .i64 (p).n2, .int .i64 (p).n3, .int .i64 (p).n4, .slice (p).la (p).labs.length (p).lk, .slice (p).sa (p).sels.length (p).sk, .slice (p).ta (p).trms.length (p).tk, .slice (p).ba (p).bers.length (p).bk, .slice (p).pa (p).prts.length (p).pk, .slice (p).aa (p).aprs.length (p).ak, .bool (p).wd, .slice (p).da (p).spds.length (p).dk, .int .i64 (p).sw, .int .i64 (p).rk, .string (p).ow, .bool (p).dm, .bool (p).pn, .bool (p).lc], .string on] V fun e w' => e = .returned (.bool mb) ∧ Below V.heap.size V w' from h2)
  show Calls Tryz.prog 25 #[.slice a n ka, .slice c N kc, .agg #[.string (p).nm, .int .i64 (p).n0, .int .i64 (p).n1, .int .i64 (p).n2, .int .i64 (p).n3, .int .i64 (p).n4, .slice (p).la (p).labs.length (p).lk, .slice (p).sa (p).sels.length (p).sk, .slice (p).ta (p).trms.length (p).tk, .slice (p).ba (p).bers.length (p).bk, .slice (p).pa (p).prts.length (p).pk, .slice (p).aa (p).aprs.length (p).ak, .bool (p).wd, .slice (p).da (p).spds.length (p).dk, .int .i64 (p).sw, .int .i64 (p).rk, .string (p).ow, .bool (p).dm, .bool (p).pn, .bool (p).lc], .string on] w _
  clear h1 h2 hnb hmb hX hbw hN hn hY hP hp hq hpq
  cases nb with
  | true =>
    obtain rfl : R = 7 := by rw [← hR]; rfl
    clear hR
    go_enter Tryz.func25, Tryz.ntmps25
    go_upto_region 1 with (fail)
    rw [← hW]
    clear hW
    go_wp2_with (first
      | ((with_reducible refine at_load (ty := 31) ?_); refine load_cells rfl 31 (.tmp 6) rfl w.heap.size 0 rfl [.string (p).nm, .int .i64 (p).n0, .int .i64 (p).n1, .int .i64 (p).n2, .int .i64 (p).n3, .int .i64 (p).n4, .slice (p).la (p).labs.length (p).lk, .slice (p).sa (p).sels.length (p).sk, .slice (p).ta (p).trms.length (p).tk, .slice (p).ba (p).bers.length (p).bk, .slice (p).pa (p).prts.length (p).pk, .slice (p).aa (p).aprs.length (p).ak, .bool (p).wd, .slice (p).da (p).spds.length (p).dk, .int .i64 (p).sw, .int .i64 (p).rk, .string (p).ow, .bool (p).dm, .bool (p).pn, .bool (p).lc] _ Tryz.underlying31 rfl (by kernel_rfl) (by first | exact HRp.out _ HX1.out | exact HRp.out _ HX.out) ?_)
      | (go_at_call 48; (with_reducible refine (H1.out _ HB.out).mono ?_); rintro e w1 ⟨rfl, hb⟩; have HB1 := Lib.hid (HB.out.trans (hb.mono HB.out.size)); have HX1 := Lib.hid (HX.out.mono hb); clear hb)
      | (go_at_call 49; (with_reducible refine (H2.out _ HB1.out).mono ?_); rintro e w2 ⟨rfl, hb⟩; have HB2 := Lib.hid (HB1.out.trans (hb.mono HB1.out.size)); clear hb))
    go_ret
    exact ⟨rfl, by first | exact HB2.out | exact HB1.out⟩
  | false =>
    cases mb with
    | true =>
      obtain rfl : R = 8 := by rw [← hR]; rfl
      clear hR
      go_enter Tryz.func25, Tryz.ntmps25
      go_upto_region 1 with (fail)
      rw [← hW]
      clear hW
      go_wp2_with (first
        | ((with_reducible refine at_load (ty := 31) ?_); refine load_cells rfl 31 (.tmp 6) rfl w.heap.size 0 rfl [.string (p).nm, .int .i64 (p).n0, .int .i64 (p).n1, .int .i64 (p).n2, .int .i64 (p).n3, .int .i64 (p).n4, .slice (p).la (p).labs.length (p).lk, .slice (p).sa (p).sels.length (p).sk, .slice (p).ta (p).trms.length (p).tk, .slice (p).ba (p).bers.length (p).bk, .slice (p).pa (p).prts.length (p).pk, .slice (p).aa (p).aprs.length (p).ak, .bool (p).wd, .slice (p).da (p).spds.length (p).dk, .int .i64 (p).sw, .int .i64 (p).rk, .string (p).ow, .bool (p).dm, .bool (p).pn, .bool (p).lc] _ Tryz.underlying31 rfl (by kernel_rfl) (by first | exact HRp.out _ HX1.out | exact HRp.out _ HX.out) ?_)
        | (go_at_call 48; (with_reducible refine (H1.out _ HB.out).mono ?_); rintro e w1 ⟨rfl, hb⟩; have HB1 := Lib.hid (HB.out.trans (hb.mono HB.out.size)); have HX1 := Lib.hid (HX.out.mono hb); clear hb)
        | (go_at_call 49; (with_reducible refine (H2.out _ HB1.out).mono ?_); rintro e w2 ⟨rfl, hb⟩; have HB2 := Lib.hid (HB1.out.trans (hb.mono HB1.out.size)); clear hb))
      go_ret
      exact ⟨rfl, by first | exact HB2.out | exact HB1.out⟩
    | false =>
      obtain rfl : R = 0 := by rw [← hR]; rfl
      clear hR
      go_enter Tryz.func25, Tryz.ntmps25
      go_upto_region 1 with (fail)
      rw [← hW]
      clear hW
      go_wp2_with (first
        | ((with_reducible refine at_load (ty := 31) ?_); refine load_cells rfl 31 (.tmp 6) rfl w.heap.size 0 rfl [.string (p).nm, .int .i64 (p).n0, .int .i64 (p).n1, .int .i64 (p).n2, .int .i64 (p).n3, .int .i64 (p).n4, .slice (p).la (p).labs.length (p).lk, .slice (p).sa (p).sels.length (p).sk, .slice (p).ta (p).trms.length (p).tk, .slice (p).ba (p).bers.length (p).bk, .slice (p).pa (p).prts.length (p).pk, .slice (p).aa (p).aprs.length (p).ak, .bool (p).wd, .slice (p).da (p).spds.length (p).dk, .int .i64 (p).sw, .int .i64 (p).rk, .string (p).ow, .bool (p).dm, .bool (p).pn, .bool (p).lc] _ Tryz.underlying31 rfl (by kernel_rfl) (by first | exact HRp.out _ HX1.out | exact HRp.out _ HX.out) ?_)
        | (go_at_call 48; (with_reducible refine (H1.out _ HB.out).mono ?_); rintro e w1 ⟨rfl, hb⟩; have HB1 := Lib.hid (HB.out.trans (hb.mono HB.out.size)); have HX1 := Lib.hid (HX.out.mono hb); clear hb)
        | (go_at_call 49; (with_reducible refine (H2.out _ HB1.out).mono ?_); rintro e w2 ⟨rfl, hb⟩; have HB2 := Lib.hid (HB1.out.trans (hb.mono HB1.out.size)); clear hb))
      go_ret
      exact ⟨rfl, by first | exact HB2.out | exact HB1.out⟩
end Go.Proofs.YthbpnfpalcgfeaaGreat
