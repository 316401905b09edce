/-
  Yards: the document's On, Used, Left.
-/
import Derived.Test.YthbpnfpalcgfeaaYdL
import Derived.Test.YthbpnfpalcgfeaaLate
import Derived.Test.YthbpnfpalcgfeaaPodO
namespace Go.Proofs.Ythbpnfpalcgfeaa
open Go.RowKit
set_option linter.unusedVariables false
set_option linter.unusedSimpArgs false

theorem usB_all (nm : ByteArray) : ∀ (l : List Bd) (e : Int) (r : R5), usB nm l e r = usB nm (l.filter (isOn nm)) e r
  | [], e, r => rfl
  | b :: l, e, r => by
    rw [List.filter_cons]
    unfold isOn
    by_cases h : b.on = nm
    · rw [decide_eq_true h, if_pos rfl]
      unfold usB
      rw [if_pos h, if_pos h]
      split
      · split
        · exact usB_all nm l _ _
        · exact usB_all nm l _ _
      · rfl
    · rw [decide_eq_false h, if_neg (by decide)]
      show (if b.on = nm then _ else usB nm l e r) = _
      rw [if_neg h]
      exact usB_all nm l e r
/-- What pods need together. -/
def sumP : List Pd → Int → R5 → Int × R5
  | [], e, r => (e, r)
  | p :: l, e, r => if e = 0 then sumP l (addEP r p) (addP r p) else sumP l e r
theorem usB_sum (nm : ByteArray) : ∀ (l : List Bd), (∀ b ∈ l, b.on = nm ∧ rtP b.p = true) → ∀ (e : Int) (r : R5), usB nm l e r = sumP (l.map Bd.p) e r
  | [], _, e, r => rfl
  | b :: l, h, e, r => by
    have hb := h b List.mem_cons_self
    have ih := usB_sum nm l fun c hc => h c (List.mem_cons_of_mem _ hc)
    unfold usB
    rw [if_pos hb.1, if_pos hb.2]
    show _ = (if e = 0 then sumP (l.map Bd.p) (addEP r b.p) (addP r b.p) else sumP (l.map Bd.p) e r)
    by_cases he : e = 0
    · rw [if_pos he, if_pos he, ih]
    · rw [if_neg he, if_neg he, ih]
theorem used_sum {bs : List Bd} {nm : ByteArray} (h : ∀ b ∈ bs, rtP b.p = true) : usedY bs nm = sumP (onL bs nm) 0 R5.z := by
  unfold usedY onL
  rw [usB_all, usB_sum]
  intro b hb
  have h9 := List.mem_filter.1 hb
  exact ⟨of_decide_eq_true h9.2, h b h9.1⟩
theorem sumP_err : ∀ (l : List Pd) (e : Int) (r : R5), e ≠ 0 → sumP l e r = (e, r)
  | [], e, r, h => rfl
  | p :: l, e, r, h => by
    unfold sumP
    rw [if_neg h]
    exact sumP_err l e r h
theorem sumP_at {l : List Pd} {k : Nat} {p : Pd} (h : l[k]? = some p) (e : Int) (r : R5) : sumP (l.drop k) e r = if e = 0 then sumP (l.drop (k + 1)) (addEP r p) (addP r p) else sumP (l.drop (k + 1)) e r := by
  obtain ⟨h1, h2⟩ := List.getElem?_eq_some_iff.1 h
  rw [List.drop_eq_getElem_cons h1, h2]
  rfl
theorem addP_zero {r : R5} {p : Pd} (h : addEP r p ≠ 0) : addP r p = R5.z := by
  unfold addP
  simp only [Rs.sel_no _ _ h]
  rfl
set_option maxRecDepth 100000 in
set_option maxHeartbeats 4000000 in
theorem refon_any (a : Option Addr) (ka : Nat) (bs : List Bd) (mm : ByteArray) (w : World) (hF : BndL w a bs) (hl : bs.length ≤ 1000000) :
    Calls Try.prog 92 #[.slice a bs.length ka, .string mm] w (GivesP w (onL bs mm)) := by
  obtain ⟨n, hn⟩ : ∃ n, bs.length = n := ⟨_, rfl⟩
  have HN := Lib.hid hn
  have HF := Lib.hid hF
  rw [hn] at hl ⊢
  clear hn hF
  obtain ⟨i0, hi, hz0, hz1, hz2⟩ := info_parts Try.info47
  have Hi := Lib.hid hi
  have Hz0 := Lib.hid hz0
  have Hz1 := Lib.hid hz1
  have Hz2 := Lib.hid hz2
  clear hi hz0 hz1 hz2
  go_enter Try.func92, Try.ntmps92
  go_wp2
  go_loopw [5, 6] (fun vo vi wr => ∃ (k : Nat) (Q : List Pd), k ≤ n ∧ vi = .int .i64 k ∧ Q = onL (bs.take k) mm ∧ Q.length ≤ k ∧ wr.ownsRow w.heap.size 47 20 vo Q.length (Q.flatMap prow) ∧ Below w.heap.size w wr) (fun _ vi _ => n - (intOf vi).toNat)
  case atStart => exact ⟨0, [], Nat.zero_le _, rfl, rfl, Nat.le_refl _, World.ownsRow_nil _ _ _ _, by (repeat' (first | with_reducible exact Below.refl _ _ | with_reducible assumption | with_reducible refine Below.drew ?_ | with_reducible refine below_drewN' ?_ _ | with_reducible refine Below.alloc ?_ ?_ _ | with_reducible refine Below.setCell ?_ ?_ _ | with_reducible refine below_step (by assumption) ?_ ?_ | omega | (simp; done) | (simp; omega)))⟩
  case round =>
    obtain ⟨k, Q, hk, rfl, hE, hLk, hO, hB⟩ := hrel
    have HE := Lib.hid hE
    have HB := Lib.hid hB
    have HO := Lib.hid hO
    have hbz := hB.size
    obtain ⟨ao, ko, rfl⟩ := own_sl hO
    by_cases hlt : k < n
    · obtain ⟨m, hm⟩ := mem_at (l := bs) (k := k) (by rw [HN.out]; exact hlt)
      obtain ⟨b, o, rfl, hb, hc⟩ := (HF.out.mono hB) (by rw [HN.out]; omega)
      have hrg : wr.rangeAt b (o + k * 21) (prow m.p) := fun j v hj => by
        have hj20 : j < 20 := (List.getElem?_eq_some_iff.1 hj).1
        rw [hc k m hm j (by omega)]
        show (prow m.p ++ [.string m.on])[j]? = some v
        rw [List.getElem?_append_left hj20]
        exact hj
      have HRg := Lib.hid hrg
      have c20 : wr.cell? ⟨b, o + k * 21 + 20, none⟩ = some (.string m.on) := hc k m hm 20 (by decide)
      have hnx := onL_next hm mm
      obtain ⟨p, on⟩ := m
      dsimp only at HRg c20 hnx
      by_cases ho : on = mm
      · have q := str_yes ho
        rw [if_pos (show isOn mm ⟨p, on⟩ = true from decide_eq_true ho), ← hE] at hnx
        have HNx := Lib.hid hnx
        obtain ⟨nm, n0, n1, n2, n3, n4, la, lk, L, sa, sk, S, ta, tk, T, ba, bk, B, pa, pk, P, aa, ak, A, wd, da, dk, D, sw, rk, ow, dm, pn, lc⟩ := p
        have HRg := Lib.hid (show wr.rangeAt b (o + k * 21) [.string nm, .int .i64 n0, .int .i64 n1, .int .i64 n2, .int .i64 n3, .int .i64 n4, .slice la L.length lk, .slice sa S.length sk, .slice ta T.length tk, .slice ba B.length bk, .slice pa P.length pk, .slice aa A.length ak, .bool wd, .slice da D.length dk, .int .i64 sw, .int .i64 rk, .string ow, .bool dm, .bool pn, .bool lc] from HRg.out)
        have HNx := Lib.hid (show Q ++ [(⟨nm, n0, n1, n2, n3, n4, la, lk, L, sa, sk, S, ta, tk, T, ba, bk, B, pa, pk, P, aa, ak, A, wd, da, dk, D, sw, rk, ow, dm, pn, lc⟩ : Pd)] = onL (bs.take (k + 1)) mm from HNx.out.symm)
        obtain ⟨pb, hpb⟩ : ∃ pb, (⟨nm, n0, n1, n2, n3, n4, la, lk, L, sa, sk, S, ta, tk, T, ba, bk, B, pa, pk, P, aa, ak, A, wd, da, dk, D, sw, rk, ow, dm, pn, lc⟩ : Pd) = pb := ⟨_, rfl⟩
        have HP := Lib.hid (show prow pb = [.string nm, .int .i64 n0, .int .i64 n1, .int .i64 n2, .int .i64 n3, .int .i64 n4, .slice la L.length lk, .slice sa S.length sk, .slice ta T.length tk, .slice ba B.length bk, .slice pa P.length pk, .slice aa A.length ak, .bool wd, .slice da D.length dk, .int .i64 sw, .int .i64 rk, .string ow, .bool dm, .bool pn, .bool lc] by rw [← hpb]; rfl)
        rw [hpb] at HNx
        clear hE hO hB hc hm hrg hnx ho hpb
        go_wp2_with (first
          | ((with_reducible refine at_load (ty := 47) ?_); refine load_cells rfl 47 (.tmp 24) rfl b (o + k * 21) rfl [.string nm, .int .i64 n0, .int .i64 n1, .int .i64 n2, .int .i64 n3, .int .i64 n4, .slice la L.length lk, .slice sa S.length sk, .slice ta T.length tk, .slice ba B.length bk, .slice pa P.length pk, .slice aa A.length ak, .bool wd, .slice da D.length dk, .int .i64 sw, .int .i64 rk, .string ow, .bool dm, .bool pn, .bool lc] _ Try.underlying47 rfl (by kernel_rfl) HRg.out ?_)
          | (at_builtin; refine wpList_append_src rfl (.tmp 20) (.tmp 26) 40 rfl w.heap.size 47 i0 _ 20 272 Try.underlying40 Hi.out Hz0.out Hz1.out Hz2.out rfl (by decide) _ Q.length (Q.flatMap prow) rfl (HO.out.alloc _) (some ⟨wr.heap.size, 0, none⟩) 1 1 [.string nm, .int .i64 n0, .int .i64 n1, .int .i64 n2, .int .i64 n3, .int .i64 n4, .slice la L.length lk, .slice sa S.length sk, .slice ta T.length tk, .slice ba B.length bk, .slice pa P.length pk, .slice aa A.length ak, .bool wd, .slice da D.length dk, .int .i64 sw, .int .i64 rk, .string ow, .bool dm, .bool pn, .bool lc] rfl rfl (fun q e => by injection e with e; rw [← e]; exact news_at _ _ _) (fun e => by cases e) (HP.out ▸ prow_one pb) (by unfold maxLen; omega) (by omega) (by simp; omega) ?_; intro v6 w6 hown6 hgrow6; obtain ⟨a6, k6, rfl⟩ := own_sl hown6; have HB6 := Lib.hid (own_below (HO.out.alloc _) (HB.out.alloc hbz _) (by simp; omega) hgrow6); have HO6 := Lib.hid hown6; clear hown6 hgrow6))
        go_roundw
        case rel =>
          refine ⟨k + 1, Q ++ [pb], by omega, by go_num, HNx.out, by rw [List.length_append]; show Q.length + 1 ≤ _; omega, ?_, HB6.out⟩
          rw [List.length_append, List.flatMap_append]
          have h9 := HO6.out
          rw [← HP.out] at h9
          simpa using h9
        case measure => simp [intOf]; omega
      · have q := str_no ho
        rw [if_neg (show ¬ isOn mm ⟨p, on⟩ = true from fun e => ho (of_decide_eq_true e)), List.append_nil, ← hE] at hnx
        have HNx := Lib.hid hnx.symm
        clear hE hO hB hc hm hrg hnx ho
        go_wp2
        go_roundw
        case rel => exact ⟨k + 1, Q, by omega, by go_num, HNx.out, by omega, HO.out, HB.out⟩
        case measure => simp [intOf]; omega
    · obtain rfl : k = n := by omega
      have hL : Q = onL bs mm := by rw [hE, List.take_of_length_le (by rw [HN.out]; exact Nat.le_refl _)]
      have HL := Lib.hid hL
      clear hE hO hB hL
      go_wp2
      refine bodyPost_ret (v := .slice ao Q.length ko) (by simp [results, Try.results92, go_sem]) rfl ⟨⟨_, rfl, by rw [← HL.out]; exact HO.out⟩, HB.out⟩
end Go.Proofs.Ythbpnfpalcgfeaa
namespace Go.Proofs.Ythbpnfpalcgfeaa
open Go.RowKit
set_option linter.unusedVariables false
set_option linter.unusedSimpArgs false

abbrev PodL := RowsAt prow 20
set_option maxRecDepth 100000 in
set_option maxHeartbeats 8000000 in
theorem refused_any (a : Option Addr) (ka : Nat) (bs : List Bd) (mm : ByteArray) (w : World) (hF : BndL w a bs) (hl : bs.length ≤ 1000000) (hr : ∀ b ∈ bs, rtP b.p = true) :
    Calls Try.prog 66 #[.slice a bs.length ka, .string mm] w fun e w' => e = .returned (.tuple #[(usedY bs mm).2.v, .int .i64 (usedY bs mm).1]) ∧ Below w.heap.size w w' := by
  have hU := used_sum (nm := mm) hr
  have hOn := fun V (hV : Below w.heap.size w V) => refon_any a ka bs mm V (hF.mono hV) hl
  have hql := onL_len bs mm
  have hrq : ∀ p ∈ onL bs mm, rtP p = true := fun p hp => by
    unfold onL at hp
    obtain ⟨b, hb, rfl⟩ := List.mem_map.1 hp
    exact hr b (List.mem_filter.1 hb).1
  obtain ⟨Q, hQ⟩ : ∃ Q, onL bs mm = Q := ⟨_, rfl⟩
  rw [hQ] at hU hOn hql hrq
  obtain ⟨U, hUU⟩ : ∃ U, usedY bs mm = U := ⟨_, rfl⟩
  rw [hUU] at hU ⊢
  obtain ⟨q, hq⟩ : ∃ q, Q.length = q := ⟨_, rfl⟩
  have HOn := Lib.hid (show ∀ V, Below w.heap.size w V → Calls Try.prog 92 #[.slice a bs.length ka, .string mm] V fun e V' => (∃ c k, e = .returned (.slice c q k) ∧ PodL V' c Q) ∧ Below V.heap.size V V' from fun V hV => (hOn V hV).mono fun e V' h => by
    obtain ⟨⟨v, rfl, ho⟩, hb⟩ := h
    obtain ⟨c, k, rfl, -, ht⟩ := IsL.of_own prow_len (by decide) ho
    exact ⟨⟨c, k, by rw [hq], ht⟩, hb⟩)
  have HU := Lib.hid hU
  have HQ := Lib.hid hq
  have HRq := Lib.hid hrq
  have hq6 : q ≤ 1000000 := by omega
  generalize bs.length = n at HOn hl ⊢
  clear hOn hU hUU hQ hq hrq hr hF hql
  go_enter Try.func66, Try.ntmps66
  go_wp2_with (go_at_call 92; (with_reducible refine (HOn.out _ (by (repeat' (first | with_reducible exact Below.refl _ _ | with_reducible assumption | with_reducible refine Below.drew ?_ | with_reducible refine below_drewN' ?_ _ | with_reducible refine Below.alloc ?_ ?_ _ | with_reducible refine Below.setCell ?_ ?_ _ | with_reducible refine below_step (by assumption) ?_ ?_ | omega | (simp; done) | (simp; omega))))).mono ?_); rintro e w1 ⟨⟨c1, k1, rfl, ht1⟩, hb1⟩; have HX1 := Lib.hid ((Blk.new w 29 R5.z.l).below hb1); have HB1 := Lib.hid (((Below.refl w.heap.size w).alloc (Nat.le_refl _) _).trans (hb1.mono (by simp))); have HT1 := Lib.hid ht1; clear hb1 ht1)
  go_loopw [7] (fun vi wr => ∃ k : Nat, k ≤ q ∧ vi = .int .i64 k ∧ Below w1.heap.size w1 wr) (fun vi _ => q - (intOf vi).toNat)
  case atStart => exact ⟨0, Nat.zero_le _, rfl, Below.refl _ _⟩
  case round =>
    obtain ⟨k, hk, rfl, hB⟩ := hrel
    have HB := Lib.hid hB
    have hbz := hB.size
    by_cases hlt : k < q
    · obtain ⟨p, hp⟩ := mem_at (l := Q) (k := k) (by rw [HQ.out]; exact hlt)
      obtain ⟨b, o, rfl, hb, hc⟩ := (HT1.out.mono hB) (by rw [HQ.out]; omega)
      have hrt := HRq.out p (List.mem_of_getElem? hp)
      have HRg := Lib.hid (show wr.rangeAt b (o + k * 20 + 1) [.int .i64 p.n0, .int .i64 p.n1, .int .i64 p.n2, .int .i64 p.n3, .int .i64 p.n4] from fun j v hj => by
        have hj5 : j < 5 := (List.getElem?_eq_some_iff.1 hj).1
        have h9 := hc k p hp (1 + j) (by omega)
        rw [show o + k * 20 + 1 + j = o + k * 20 + (1 + j) by omega, h9]
        match j, hj5, hj with
        | 0, _, hj => exact hj
        | 1, _, hj => exact hj
        | 2, _, hj => exact hj
        | 3, _, hj => exact hj
        | 4, _, hj => exact hj)
      have hRt := fun V => refright_any p.n0 p.n1 p.n2 p.n3 p.n4 V
      rw [show rtB p.n0 p.n1 p.n2 p.n3 p.n4 = true from hrt] at hRt
      have HRt := Lib.hid hRt
      obtain ⟨n0, n1, n2, n3, n4, hn0, hn1, hn2, hn3, hn4⟩ : ∃ n0 n1 n2 n3 n4, p.n0 = n0 ∧ p.n1 = n1 ∧ p.n2 = n2 ∧ p.n3 = n3 ∧ p.n4 = n4 := ⟨_, _, _, _, _, rfl, rfl, rfl, rfl, rfl⟩
      rw [hn0, hn1, hn2, hn3, hn4] at HRg HRt
      clear hc hp hrt hRt hB hn0 hn1 hn2 hn3 hn4
      go_wp2_with (first
        | ((with_reducible refine at_load (ty := 29) ?_); refine load_cells rfl 29 (.tmp 24) rfl b (o + k * 20 + 1) rfl [.int .i64 n0, .int .i64 n1, .int .i64 n2, .int .i64 n3, .int .i64 n4] _ Try.underlying29 rfl (by kernel_rfl) HRg.out ?_)
        | (go_at_call 18; (with_reducible refine (HRt.out _).mono ?_); rintro e w3 ⟨rfl, hb3⟩; have HB3 := Lib.hid (HB.out.trans (hb3.mono hbz)); clear hb3))
      go_roundw
      case rel => exact ⟨k + 1, by omega, by go_num, HB3.out⟩
      case measure => simp [intOf]; omega
    · obtain rfl : q = k := by omega
      have HX2 := Lib.hid (HX1.out.below hB)
      have HB2 := Lib.hid (HB1.out.trans (hB.mono HB1.out.size))
      have HT2 := Lib.hid (HT1.out.mono hB)
      clear hB HB hbz HX1 HT1
      go_wp2
      obtain ⟨V0, hV0⟩ : ∃ V, V = wr := ⟨_, rfl⟩
      subst hV0
      have HS0 := Lib.hid (Blk.new V0 29 R5.z.l)
      obtain ⟨N, hN⟩ : ∃ N, V0.heap.size = N := ⟨_, rfl⟩
      have HN := Lib.hid hN
      have hXN : w.heap.size < N := by rw [← hN]; exact HX2.out.lt
      have HBs := Lib.hid (show Below N V0 (V0.alloc (.cells R5.z.l.toArray 29)) by rw [← hN]; exact (Below.refl _ _).alloc (Nat.le_refl _) _)
      rw [hN] at HS0 ⊢
      have HUs := Lib.hid (show U = sumP (Q.drop 0) 0 R5.z from HU.out)
      clear hN HU
      go_loopw [9] (fun vi wq => ∃ (k : Nat) (r : R5), k ≤ q ∧ vi = .int .i64 k ∧ U = sumP (Q.drop k) 0 r ∧ Blk wq N 29 r.l ∧ Below N V0 wq) (fun vi _ => q - (intOf vi).toNat)
      case atStart => exact ⟨0, R5.z, Nat.zero_le _, rfl, HUs.out, HS0.out, HBs.out⟩
      case round =>
        obtain ⟨k, r, hk, rfl, hE, hS, hB⟩ := hrel
        have HE := Lib.hid hE
        have HS := Lib.hid hS
        have HB := Lib.hid hB
        have HV := Lib.hid (show Below V0.heap.size V0 wr by rw [HN.out]; exact hB)
        have HXr := Lib.hid (HX2.out.below HV.out)
        have HWr := Lib.hid (HB2.out.trans (HV.out.mono HB2.out.size))
        have hSl := HS.out.lt
        clear hE hS hB HUs HS0 HBs
        by_cases hlt : k < q
        · obtain ⟨p, hp⟩ := mem_at (l := Q) (k := k) (by rw [HQ.out]; exact hlt)
          obtain ⟨b, o, rfl, hb, hc⟩ := (HT2.out.mono HV.out) (by rw [HQ.out]; omega)
          have HRg := Lib.hid (show wr.rangeAt b (o + k * 20 + 1) [.int .i64 p.n0, .int .i64 p.n1, .int .i64 p.n2, .int .i64 p.n3, .int .i64 p.n4] from fun j v hj => by
            have hj5 : j < 5 := (List.getElem?_eq_some_iff.1 hj).1
            have h9 := hc k p hp (1 + j) (by omega)
            rw [show o + k * 20 + 1 + j = o + k * 20 + (1 + j) by omega, h9]
            match j, hj5, hj with
            | 0, _, hj => exact hj
            | 1, _, hj => exact hj
            | 2, _, hj => exact hj
            | 3, _, hj => exact hj
            | 4, _, hj => exact hj)
          have hnx := HE.out.trans (sumP_at hp 0 r)
          rw [if_pos rfl] at hnx
          have hbad := fun (h : addEP r p ≠ 0) => (hnx.trans (sumP_err _ _ _ h)).trans (congrArg (Prod.mk _) (addP_zero h))
          obtain ⟨r0, r1, r2, r3, r4⟩ := r
          obtain ⟨n0, n1, n2, n3, n4, hn0, hn1, hn2, hn3, hn4⟩ : ∃ n0 n1 n2 n3 n4, p.n0 = n0 ∧ p.n1 = n1 ∧ p.n2 = n2 ∧ p.n3 = n3 ∧ p.n4 = n4 := ⟨_, _, _, _, _, rfl, rfl, rfl, rfl, rfl⟩
          simp only [addEP, addP, hn0, hn1, hn2, hn3, hn4] at hnx hbad HRg
          have HNx := Lib.hid hnx
          have HBad := Lib.hid hbad
          have HRs := Lib.hid (show wr.rangeAt N 0 [.int .i64 r0, .int .i64 r1, .int .i64 r2, .int .i64 r3, .int .i64 r4] from fun j v hj => by rw [Nat.zero_add, HS.out.cell]; exact hj)
          clear hc hp hnx hbad hn0 hn1 hn2 hn3 hn4 HE
          obtain ⟨W, hWw⟩ : ∃ V, V = wr := ⟨_, rfl⟩
          subst hWw
          go_wp2
          have hcH := held_cell
          refine region_rel_late 11 [9] (by kernel_rfl) (by kernel_rfl) (by kernel_rfl) ?_ ?_
          · exact fun _ _ _ _ _ h => h
          dsimp only [List.take, List.drop]
          repeat
            ((with_reducible refine relStep (fun K hK => ?_))
             (have HK := Lib.hid hK)
             clear hK
             (apply relInl
              · intro r n hf
                have Hf := Lib.hid hf
                clear hf
                (first
                  | ((first | ((with_reducible refine at_rel (ty := 29) ?_); refine rel_load rfl N 0 rfl [.int .i64 r0, .int .i64 r1, .int .i64 r2, .int .i64 r3, .int .i64 r4] _ Try.underlying29 rfl (by kernel_rfl) (rangeAt_mono HRs.out hSl n.below) rfl) | ((with_reducible refine at_rel (ty := 29) ?_); refine rel_load rfl b (o + k * 20 + 1) rfl [.int .i64 n0, .int .i64 n1, .int .i64 n2, .int .i64 n3, .int .i64 n4] _ Try.underlying29 rfl (by kernel_rfl) (rangeAt_mono HRg.out hb n.below) rfl)))
                  | (unfold relAt
                     go_simp
                     (first | (refine relUpon_val ?_ (Below.refl _ _); exact rfl) | exact rfl | (refine relUpon_enter ?_; (go_at_call 20; (with_reducible refine (Rs.refadd_any r0 r1 r2 r3 r4 n0 n1 n2 n3 n4 _).mono ?_); rintro e w9 ⟨rfl, hb⟩; exact ⟨⟨_, rfl, rfl⟩, hb⟩)))))
              (simp only [Act.put, List.setIfInBounds_toArray, List.set_cons_zero, List.set_cons_succ])
              (with_reducible refine HK.out _ _ ?_)
              clear HK K))
          (with_reducible refine relStep (fun K hK => ?_))
          (have HK := Lib.hid hK)
          clear hK
          refine relInr (NewR W.heap.size) (NewR.stays _) (fun r n hf => ?_) ?_
          · have Hf := Lib.hid hf
            clear hf HK K
            unfold relAt
            (skip)
            go_simp
            ((refine relUpon_val ?_ ?_; exact NewR.mk n; exact (Below.refl _ _).alloc (Nat.le_refl _) _))
          (simp only [Act.put, List.setIfInBounds_toArray, List.set_cons_zero, List.set_cons_succ])
          (with_reducible refine HK.out _ _ ?_)
          clear HK K
          refine relNil ?_
          intro r9 n9 hx9
          clear hcH
          (try simp only [List.nil_append, List.cons_append, List.mem_cons, List.not_mem_nil, or_false, forall_eq_or_imp, forall_eq, false_implies, implies_true] at hx9)
          obtain ⟨w9, hb9⟩ := n9
          (try dsimp only)
          obtain ⟨hc9, hf9⟩ := bcell hb9
          have hz9 := hb9.size
          (try simp at hz9)
          obtain ⟨qb, e9, hq9, hB9⟩ := hx9
          have e9 : r9 10 = _ := e9
          dsimp only at hB9
          rw [e9]
          have Z9 := Lib.hid hB9
          have S9 := Lib.hid (HS.out.below hb9)
          have X9 := Lib.hid (HXr.out.below hb9)
          have B9 := Lib.hid (HB.out.trans (hb9.mono (Nat.le_of_lt hSl)))
          have W9 := Lib.hid (HWr.out.trans (hb9.mono HWr.out.size))
          have hNq : N < qb := Nat.lt_of_lt_of_le hSl hq9
          clear hB9 e9 hb9 hc9 hf9 hz9 hq9 HRs HRg HS HB HV HXr HWr hSl hb
          obtain ⟨E, hEE⟩ : ∃ E, Rs.addE r0 r1 r2 r3 r4 n0 n1 n2 n3 n4 = E := ⟨_, rfl⟩
          simp only [hEE] at HNx HBad ⊢
          generalize Rs.sel E (r0 + n0) = s0 at HNx ⊢
          generalize Rs.sel E (r1 + n1) = s1 at HNx ⊢
          generalize Rs.sel E (r2 + n2) = s2 at HNx ⊢
          generalize Rs.sel E (r3 + n3) = s3 at HNx ⊢
          generalize Rs.sel E (r4 + n4) = s4 at HNx ⊢
          clear hEE
          have z0 := Z9.out.cell 0
          have g0 := Z9.out.frozen 0
          have z1 := Z9.out.cell 1
          have g1 := Z9.out.frozen 1
          have z2 := Z9.out.cell 2
          have g2 := Z9.out.frozen 2
          have z3 := Z9.out.cell 3
          have g3 := Z9.out.frozen 3
          have z4 := Z9.out.cell 4
          have g4 := Z9.out.frozen 4
          have y0 := S9.out.cell 0
          have f0 := S9.out.frozen 0
          have y1 := S9.out.cell 1
          have f1 := S9.out.frozen 1
          have y2 := S9.out.cell 2
          have f2 := S9.out.frozen 2
          have y3 := S9.out.cell 3
          have f3 := S9.out.frozen 3
          have y4 := S9.out.cell 4
          have f4 := S9.out.frozen 4
          have hyl := S9.out.lt
          have hql := Z9.out.lt
          dsimp only [R5.z, R5.l, List.getElem?_cons_zero, List.getElem?_cons_succ] at z0 y0 z1 y1 z2 y2 z3 y3 z4 y4
          by_cases he : E = 0
          · subst he
            go_wp2
            go_roundw
            case rel => exact ⟨k + 1, ⟨s0, s1, s2, s3, s4⟩, by omega, by go_num, HNx.out, ((((((((((S9.out.other (Nat.ne_of_lt hNq) _).other (Nat.ne_of_lt hNq) _).other (Nat.ne_of_lt hNq) _).other (Nat.ne_of_lt hNq) _).other (Nat.ne_of_lt hNq) _).set 0 _).set 1 _).set 2 _).set 3 _).set 4 _), ((((((((((B9.out.setCell (Nat.le_of_lt hNq) _).setCell (Nat.le_of_lt hNq) _).setCell (Nat.le_of_lt hNq) _).setCell (Nat.le_of_lt hNq) _).setCell (Nat.le_of_lt hNq) _).setCell (Nat.le_refl _) _).setCell (Nat.le_refl _) _).setCell (Nat.le_refl _) _).setCell (Nat.le_refl _) _).setCell (Nat.le_refl _) _)⟩
            case measure => simp [intOf]; omega
          · have q0 : (E == 0) = false := by simpa using he
            have x0 := X9.out.cell 0
            have h0 := X9.out.frozen 0
            have x1 := X9.out.cell 1
            have h1 := X9.out.frozen 1
            have x2 := X9.out.cell 2
            have h2 := X9.out.frozen 2
            have x3 := X9.out.cell 3
            have h3 := X9.out.frozen 3
            have x4 := X9.out.cell 4
            have h4 := X9.out.frozen 4
            have hxl := X9.out.lt
            dsimp only [R5.z, R5.l, List.getElem?_cons_zero, List.getElem?_cons_succ] at x0 x1 x2 x3 x4
            have HU9 := Lib.hid (HBad.out he)
            go_wp2
            refine bodyPost_ret (v := .tuple #[R5.z.v, .int .i64 E]) (by simp [results, Try.results66, go_sem, R5.v, R5.z, *]) rfl ⟨by rw [HU9.out], ?_⟩
            have hwq : w.heap.size ≤ qb := by omega
            exact ((((((((((W9.out.setCell hwq _).setCell hwq _).setCell hwq _).setCell hwq _).setCell hwq _).setCell (Nat.le_refl _) _).setCell (Nat.le_refl _) _).setCell (Nat.le_refl _) _).setCell (Nat.le_refl _) _).setCell (Nat.le_refl _) _)
        · obtain rfl : q = k := by omega
          have hL : U = (0, r) := by rw [HE.out, List.drop_eq_nil_of_le (by rw [HQ.out]; exact Nat.le_refl _)]; rfl
          have HL := Lib.hid hL
          obtain ⟨r0, r1, r2, r3, r4⟩ := r
          clear hL HE
          have x0 := HXr.out.cell 0
          have h0 := HXr.out.frozen 0
          have x1 := HXr.out.cell 1
          have h1 := HXr.out.frozen 1
          have x2 := HXr.out.cell 2
          have h2 := HXr.out.frozen 2
          have x3 := HXr.out.cell 3
          have h3 := HXr.out.frozen 3
          have x4 := HXr.out.cell 4
          have h4 := HXr.out.frozen 4
          have y0 := HS.out.cell 0
          have f0 := HS.out.frozen 0
          have y1 := HS.out.cell 1
          have f1 := HS.out.frozen 1
          have y2 := HS.out.cell 2
          have f2 := HS.out.frozen 2
          have y3 := HS.out.cell 3
          have f3 := HS.out.frozen 3
          have y4 := HS.out.cell 4
          have f4 := HS.out.frozen 4
          have hxl := HXr.out.lt
          dsimp only [R5.z, R5.l, List.getElem?_cons_zero, List.getElem?_cons_succ] at x0 x1 x2 x3 x4 y0 y1 y2 y3 y4
          go_wp2
          refine bodyPost_ret (v := .tuple #[R5.v ⟨r0, r1, r2, r3, r4⟩, .int .i64 0]) (by simp [results, Try.results66, go_sem, R5.v, R5.z, *]) rfl ⟨by rw [HL.out], ?_⟩
          exact ((((HWr.out.setCell (Nat.le_refl _) _).setCell (Nat.le_refl _) _).setCell (Nat.le_refl _) _).setCell (Nat.le_refl _) _).setCell (Nat.le_refl _) _
end Go.Proofs.Ythbpnfpalcgfeaa
namespace Go.Proofs.Ythbpnfpalcgfeaa
open Go.RowKit
set_option linter.unusedVariables false
set_option linter.unusedSimpArgs false

set_option maxRecDepth 100000 in
set_option maxHeartbeats 8000000 in
theorem refleft_any (m : Mac) (a : Option Addr) (ka : Nat) (bs : List Bd) (w : World) (hF : BndL w a bs) (hl : bs.length ≤ 1000000) (hr : ∀ b ∈ bs, rtP b.p = true) (hh : rt5 (hasM m) = true) (hu : (usedY bs m.nm).1 = 0) :
    Calls Try.prog 29 #[.agg (mrow m).toArray, .slice a bs.length ka] w fun e w' => e = .returned ((leftY m bs).v) ∧ Below w.heap.size w w' := by
  have hv : leftY m bs = _ := (if_pos hu).trans (left_plain hh (usedY_right hu))
  have hUs := fun W hW => refused_any a ka bs m.nm W (hF.mono hW) hl hr
  have hur := (rtB_iff _ _ _ _ _).1 (usedY_right hu)
  have hhr := (rtB_iff _ _ _ _ _).1 hh
  have hRt := fun V => refright_any m.r0 m.r1 m.r2 m.r3 m.r4 V
  rw [show rtB m.r0 m.r1 m.r2 m.r3 m.r4 = true from hh] at hRt
  obtain ⟨U, hU⟩ : ∃ U, usedY bs m.nm = U := ⟨_, rfl⟩
  rw [hU] at hUs hv hur hu
  rw [hv]
  obtain ⟨e, u0, u1, u2, u3, u4⟩ := U
  dsimp only at hu
  subst hu
  dsimp only [R5.v] at hUs
  obtain ⟨W, hW⟩ : ∃ W, W = (w.alloc (.cells (mrow m).toArray 35)).alloc (.cells R5.z.l.toArray 29) := ⟨_, rfl⟩
  have hb1 : Below w.heap.size w (w.alloc (.cells (mrow m).toArray 35)) := (Below.refl _ w).alloc (Nat.le_refl _) _
  have HW := Lib.hid (show Below w.heap.size w W by rw [hW]; exact hb1.alloc hb1.size _)
  have HM := Lib.hid (show Blk W w.heap.size 35 (mrow m) by rw [hW]; exact (Blk.new w 35 (mrow m)).alloc _)
  have HX := Lib.hid (show Blk W (w.heap.size + 1) 29 R5.z.l by
    have h9 := Blk.new (w.alloc (.cells (mrow m).toArray 35)) 29 R5.z.l
    rw [World.size_alloc] at h9
    rw [hW]
    exact h9)
  generalize bs.length = n at hUs hl ⊢
  clear hF hl hr hh hb1 hv hU
  obtain ⟨mn, mg, r0, r1, r2, r3, r4, ma, mk, ML, mta, mtk, MT, rd⟩ := m
  dsimp only [hasM] at hhr hRt hUs ⊢
  have HUs := Lib.hid hUs
  have HRt := Lib.hid hRt
  replace hW : W = (w.alloc (.cells #[.string mn, .string mg, .int .i64 r0, .int .i64 r1, .int .i64 r2, .int .i64 r3, .int .i64 r4, .slice ma ML.length mk, .slice mta MT.length mtk, .bool rd] 35)).alloc (.cells #[.int .i64 0, .int .i64 0, .int .i64 0, .int .i64 0, .int .i64 0] 29) := hW
  show Calls Try.prog 29 #[.agg #[.string mn, .string mg, .int .i64 r0, .int .i64 r1, .int .i64 r2, .int .i64 r3, .int .i64 r4, .slice ma ML.length mk, .slice mta MT.length mtk, .bool rd], .slice a n ka] w _
  have HM := Lib.hid (show Blk W w.heap.size 35 [.string mn, .string mg, .int .i64 r0, .int .i64 r1, .int .i64 r2, .int .i64 r3, .int .i64 r4, .slice ma ML.length mk, .slice mta MT.length mtk, .bool rd] from HM.out)
  clear hUs hRt
  have Hur := Lib.hid hur
  have Hhr := Lib.hid hhr
  clear hur hhr
  go_enter Try.func29, Try.ntmps29
  go_upto_region 1 with (fail)
  rw [← hW]
  clear hW
  have c0 := HM.out.cell 0
  have hml := HM.out.lt
  dsimp only [List.getElem?_cons_zero] at c0
  have HRh := Lib.hid (show ∀ V, Blk V w.heap.size 35 [.string mn, .string mg, .int .i64 r0, .int .i64 r1, .int .i64 r2, .int .i64 r3, .int .i64 r4, .slice ma ML.length mk, .slice mta MT.length mtk, .bool rd] → V.rangeAt w.heap.size 2 [.int .i64 r0, .int .i64 r1, .int .i64 r2, .int .i64 r3, .int .i64 r4] from fun V h j v hj => by
    have hj5 : j < 5 := (List.getElem?_eq_some_iff.1 hj).1
    rw [h.cell]
    match j, hj5, hj with
    | 0, _, hj => exact hj
    | 1, _, hj => exact hj
    | 2, _, hj => exact hj
    | 3, _, hj => exact hj
    | 4, _, hj => exact hj)
  go_upto_region 2 with (go_at_call 66; (with_reducible refine (HUs.out _ HW.out).mono ?_); rintro e w3 ⟨rfl, hb3⟩; have HB3 := Lib.hid (HW.out.trans (hb3.mono HW.out.size)); have HM3 := Lib.hid (HM.out.below hb3); have HX3 := Lib.hid (HX.out.below hb3); clear hb3 c0 hml)
  obtain ⟨V, hV⟩ : ∃ V, V = w3.alloc (.cells #[.int .i64 u0, .int .i64 u1, .int .i64 u2, .int .i64 u3, .int .i64 u4] 29) := ⟨_, rfl⟩
  obtain ⟨B, hB⟩ : ∃ B, w3.heap.size = B := ⟨_, rfl⟩
  have HBV := Lib.hid (show Below w.heap.size w V by rw [hV]; exact HB3.out.alloc HB3.out.size _)
  have HMV := Lib.hid (show Blk V w.heap.size 35 [.string mn, .string mg, .int .i64 r0, .int .i64 r1, .int .i64 r2, .int .i64 r3, .int .i64 r4, .slice ma ML.length mk, .slice mta MT.length mtk, .bool rd] by rw [hV]; exact HM3.out.alloc _)
  have HXV := Lib.hid (show Blk V (w.heap.size + 1) 29 R5.z.l by rw [hV]; exact HX3.out.alloc _)
  have HUV := Lib.hid (show Blk V B 29 [.int .i64 u0, .int .i64 u1, .int .i64 u2, .int .i64 u3, .int .i64 u4] by rw [hV, ← hB]; exact Blk.new w3 29 [.int .i64 u0, .int .i64 u1, .int .i64 u2, .int .i64 u3, .int .i64 u4])
  have hXB : w.heap.size + 1 < B := by rw [← hB]; exact HX3.out.lt
  rw [← hV, hB]
  clear hV hB HB3 HM3 HX3 HW HM HX HUs
  go_upto_region 4 with (first
    | ((with_reducible refine at_load (ty := 29) ?_); refine load_cells rfl 29 (.tmp 18) rfl w.heap.size 2 rfl [.int .i64 r0, .int .i64 r1, .int .i64 r2, .int .i64 r3, .int .i64 r4] _ Try.underlying29 rfl (by kernel_rfl) (HRh.out _ HMV.out) ?_)
    | (go_at_call 18; (with_reducible refine (HRt.out _).mono ?_); rintro e w4 ⟨rfl, hb4⟩; have HB4 := Lib.hid (HBV.out.trans (hb4.mono HBV.out.size)); have HM4 := Lib.hid (HMV.out.below hb4); have HX4 := Lib.hid (HXV.out.below hb4); have HU4 := Lib.hid (HUV.out.below hb4); clear hb4))
  clear HBV HMV HXV HUV HRt
  go_upto_region 5 with (first
    | ((with_reducible refine at_load (ty := 29) ?_); refine load_cells rfl 29 (.tmp 24) rfl w.heap.size 2 rfl [.int .i64 r0, .int .i64 r1, .int .i64 r2, .int .i64 r3, .int .i64 r4] _ Try.underlying29 rfl (by kernel_rfl) (HRh.out _ HM4.out) ?_)
    | ((with_reducible refine at_store (ty := 29) ?_); refine store_new rfl 29 (.tmp 7) (.tmp 25) rfl _ _ rfl rfl (by kernel_rfl) rfl (by rfl) rfl ?_))
  obtain ⟨V5, hV⟩ : ∃ V, V = w4.alloc (.cells #[.int .i64 r0, .int .i64 r1, .int .i64 r2, .int .i64 r3, .int .i64 r4] 29) := ⟨_, rfl⟩
  obtain ⟨C, hC⟩ : ∃ B, w4.heap.size = B := ⟨_, rfl⟩
  have HB5 := Lib.hid (show Below w.heap.size w V5 by rw [hV]; exact HB4.out.alloc HB4.out.size _)
  have HX5 := Lib.hid (show Blk V5 (w.heap.size + 1) 29 R5.z.l by rw [hV]; exact HX4.out.alloc _)
  have HU5 := Lib.hid (show Blk V5 B 29 [.int .i64 u0, .int .i64 u1, .int .i64 u2, .int .i64 u3, .int .i64 u4] by rw [hV]; exact HU4.out.alloc _)
  have HC5 := Lib.hid (show Blk V5 C 29 [.int .i64 r0, .int .i64 r1, .int .i64 r2, .int .i64 r3, .int .i64 r4] by rw [hV, ← hC]; exact Blk.new w4 29 [.int .i64 r0, .int .i64 r1, .int .i64 r2, .int .i64 r3, .int .i64 r4])
  rw [← hV, hC]
  clear hV hC HB4 HM4 HX4 HU4 HRh
  have x0 := HX5.out.cell 0
  have f0 := HX5.out.frozen 0
  have x1 := HX5.out.cell 1
  have f1 := HX5.out.frozen 1
  have x2 := HX5.out.cell 2
  have f2 := HX5.out.frozen 2
  have x3 := HX5.out.cell 3
  have f3 := HX5.out.frozen 3
  have x4 := HX5.out.cell 4
  have f4 := HX5.out.frozen 4
  have y0 := HU5.out.cell 0
  have y1 := HU5.out.cell 1
  have y2 := HU5.out.cell 2
  have y3 := HU5.out.cell 3
  have y4 := HU5.out.cell 4
  have z0 := HC5.out.cell 0
  have z1 := HC5.out.cell 1
  have z2 := HC5.out.cell 2
  have z3 := HC5.out.cell 3
  have z4 := HC5.out.cell 4
  have hxl := HX5.out.lt
  have hul := HU5.out.lt
  have hcl := HC5.out.lt
  dsimp only [R5.z, R5.l, List.getElem?_cons_zero, List.getElem?_cons_succ] at x0 x1 x2 x3 x4 y0 y1 y2 y3 y4 z0 z1 z2 z3 z4
  have k0 : IntKind.i64.wrap (r0 - u0) = r0 - u0 := wrap_in (by have := Hur.out; have := Hhr.out; omega) (by have := Hur.out; have := Hhr.out; omega)
  have k1 : IntKind.i64.wrap (r1 - u1) = r1 - u1 := wrap_in (by have := Hur.out; have := Hhr.out; omega) (by have := Hur.out; have := Hhr.out; omega)
  have k2 : IntKind.i64.wrap (r2 - u2) = r2 - u2 := wrap_in (by have := Hur.out; have := Hhr.out; omega) (by have := Hur.out; have := Hhr.out; omega)
  have k3 : IntKind.i64.wrap (r3 - u3) = r3 - u3 := wrap_in (by have := Hur.out; have := Hhr.out; omega) (by have := Hur.out; have := Hhr.out; omega)
  have k4 : IntKind.i64.wrap (r4 - u4) = r4 - u4 := wrap_in (by have := Hur.out; have := Hhr.out; omega) (by have := Hur.out; have := Hhr.out; omega)
  have A0 := Lib.hid (show (u0 < r0 → r0 - minI r0 u0 = r0 - u0) ∧ (r0 ≤ u0 → r0 - minI r0 u0 = 0) from ⟨fun h => by unfold minI; rw [if_pos h], fun h => by unfold minI; rw [if_neg (by omega)]; omega⟩)
  have A1 := Lib.hid (show (u1 < r1 → r1 - minI r1 u1 = r1 - u1) ∧ (r1 ≤ u1 → r1 - minI r1 u1 = 0) from ⟨fun h => by unfold minI; rw [if_pos h], fun h => by unfold minI; rw [if_neg (by omega)]; omega⟩)
  have A2 := Lib.hid (show (u2 < r2 → r2 - minI r2 u2 = r2 - u2) ∧ (r2 ≤ u2 → r2 - minI r2 u2 = 0) from ⟨fun h => by unfold minI; rw [if_pos h], fun h => by unfold minI; rw [if_neg (by omega)]; omega⟩)
  have A3 := Lib.hid (show (u3 < r3 → r3 - minI r3 u3 = r3 - u3) ∧ (r3 ≤ u3 → r3 - minI r3 u3 = 0) from ⟨fun h => by unfold minI; rw [if_pos h], fun h => by unfold minI; rw [if_neg (by omega)]; omega⟩)
  have A4 := Lib.hid (show (u4 < r4 → r4 - minI r4 u4 = r4 - u4) ∧ (r4 ≤ u4 → r4 - minI r4 u4 = 0) from ⟨fun h => by unfold minI; rw [if_pos h], fun h => by unfold minI; rw [if_neg (by omega)]; omega⟩)
  go_wp2
  all_goals
    refine bodyPost_ret (v := R5.v ⟨r0 - minI r0 u0, r1 - minI r1 u1, r2 - minI r2 u2, r3 - minI r3 u3, r4 - minI r4 u4⟩) (by have a0 := A0.out.1; have b0 := A0.out.2; have a1 := A1.out.1; have b1 := A1.out.2; have a2 := A2.out.1; have b2 := A2.out.2; have a3 := A3.out.1; have b3 := A3.out.2; have a4 := A4.out.1; have b4 := A4.out.2; simp [results, Try.results29, go_sem, R5.v, *]) rfl ⟨rfl, ((((HB5.out.setCell (Nat.le_succ _) _).setCell (Nat.le_succ _) _).setCell (Nat.le_succ _) _).setCell (Nat.le_succ _) _).setCell (Nat.le_succ _) _⟩
end Go.Proofs.Ythbpnfpalcgfeaa
