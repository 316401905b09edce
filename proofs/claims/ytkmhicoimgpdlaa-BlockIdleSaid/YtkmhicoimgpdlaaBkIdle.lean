/-
  BlockIdle: a greater bound leaves no fewer machines idle; none is idle without a group, or not ready.
-/
import Derived.Test.YtkmhicoimgpdlaaBk4
namespace Go.Proofs.Ytkmhicoimgpdlaa
open Go.ChangeShapes Go.WideShapes Go.ChangeAt Go.RowKit
set_option linter.unusedVariables false
set_option linter.unusedSimpArgs false
namespace blockIdle

theorem filt_sub {α : Type} {f g : α → Bool} (h : ∀ x, f x = true → g x = true) : ∀ (l : List α), (l.filter f).Sublist (l.filter g)
  | [] => List.Sublist.refl _
  | x :: l => by
    have ih := filt_sub h l
    rw [List.filter_cons, List.filter_cons]
    by_cases hf : f x = true
    · rw [if_pos hf, if_pos (h x hf)]
      exact ih.cons_cons x
    · rw [if_neg hf]
      split
      · exact ih.cons x
      · exact ih
theorem idle_sub (ms : List Mac) (bs : List Bd) (q : Int) : (idleL ms bs q).Sublist (idleL ms bs (q + 1)) := by
  unfold idleL
  refine (filt_sub (fun m h => ?_) ms).map _
  unfold idleQ at h ⊢
  simp only [Bool.and_eq_true, decide_eq_true_eq] at h ⊢
  exact ⟨h.1, h.2.1, by omega⟩
theorem idle_none (ms : List Mac) (bs : List Bd) : idleL ms bs 0 = [] := by
  unfold idleL
  rw [List.map_eq_nil_iff, List.filter_eq_nil_iff]
  intro m _ h
  unfold idleQ at h
  simp only [Bool.and_eq_true, decide_eq_true_eq] at h
  have := useB_zero m bs
  omega
theorem idle_len (ms : List Mac) (bs : List Bd) (q : Int) : (idleL ms bs q).length ≤ ms.length := by
  unfold idleL
  rw [List.length_map]
  exact List.length_filter_le _ _
theorem idle_at {ms : List Mac} {bs : List Bd} {q : Int} {i : Nat} {x : ByteArray} (h : (idleL ms bs q)[i]? = some x) (hn : twiceN (ms.map Mac.nm) = false) :
    ∃ (k : Nat) (m : Mac), ms[k]? = some m ∧ findN (ms.map Mac.nm) x 0 = k ∧ ¬ m.gp = emp ∧ m.rd = true ∧ useB m bs < q := by
  have hm := List.mem_of_getElem? h
  unfold idleL at hm
  obtain ⟨m, hmf, rfl⟩ := List.mem_map.1 hm
  rw [List.mem_filter] at hmf
  obtain ⟨k, hk⟩ := List.getElem?_of_mem hmf.1
  have h2 := hmf.2
  unfold idleQ at h2
  simp only [Bool.and_eq_true, Bool.not_eq_true', decide_eq_false_iff_not, decide_eq_true_eq] at h2
  exact ⟨k, m, hk, find_once hn (by rw [List.getElem?_map, hk]; rfl), h2.1, h2.2.1, h2.2.2⟩
theorem sub_step {A B : List ByteArray} {i t : Nat} {x : ByteArray} (h : (A.drop i).Sublist (B.drop t)) (hx : A[i]? = some x) :
    ∃ y, B[t]? = some y ∧ (y ≠ x → (A.drop i).Sublist (B.drop (t + 1))) ∧ (A.drop (i + 1)).Sublist (B.drop t) := by
  have hA : A.drop i = x :: A.drop (i + 1) := by
    obtain ⟨hi, e⟩ := List.getElem?_eq_some_iff.1 hx
    rw [List.drop_eq_getElem_cons hi, e]
  have ht : t < B.length := by
    rcases Nat.lt_or_ge t B.length with h1 | h1
    · exact h1
    · rw [List.drop_eq_nil_of_le h1, hA] at h
      exact absurd h.length_le (by simp)
  refine ⟨B[t], List.getElem?_eq_getElem ht, fun hne => ?_, ?_⟩
  · rw [hA, List.drop_eq_getElem_cons ht] at h
    rw [hA]
    cases h with
    | cons _ h => exact h
    | cons_cons _ h => exact absurd rfl hne
  · rw [hA] at h
    exact (List.sublist_cons_self _ _).trans h
set_option maxRecDepth 100000 in
set_option maxHeartbeats 16000000 in
theorem walk1 (a : Option Addr) (ka : Nat) (ms : List Mac) (c : Option Addr) (kc : Nat) (bs : List Bd) (q : Int) (w : World) (hF : MacL w a ms) (hG : BndL w c bs) (hA : ∀ m ∈ ms, MacIn w m) (hB : ∀ b ∈ bs, BndIn w b) (hl : ms.length ≤ maxLen) (hl2 : bs.length ≤ maxLen) (hq0 : 0 ≤ q) (hq1 : q ≤ 65535) :
    Calls Try.prog 3 #[.slice a ms.length ka, .slice c bs.length kc, .int .u16 q] w fun e w' => e = .returned (.bool true) ∧ Below w.heap.size w w' := by
  have hRt := bright0_any a c ka kc ms bs w hF hG hA hB hl hl2
  have hw1 : IntKind.i64.wrap q = q := wrap_in (by omega) (by omega)
  have hw2 : IntKind.i64.wrap (q + 1) = q + 1 := wrap_in (by omega) (by omega)
  obtain ⟨g, hg⟩ : ∃ g, rightY ms bs = g := ⟨_, rfl⟩
  rw [hg] at hRt
  obtain ⟨N, hN⟩ : ∃ N, bs.length = N := ⟨_, rfl⟩
  obtain ⟨n, hn⟩ : ∃ n, ms.length = n := ⟨_, rfl⟩
  cases g with
  | false =>
    rw [hn, hN] at hRt ⊢
    have HRt := Lib.hid hRt
    clear hRt hg hF hG hA hB hl hl2 hN hn
    go_enter Try.func3, Try.ntmps3
    go_wp2_with (first
      | (go_at_call 7; (with_reducible refine (HRt.out).mono ?_); rintro e w1 ⟨rfl, hb⟩; have HB1 := Lib.hid hb; clear hb)
      | (go_at_call 8; (with_reducible refine (bknown_any _).mono ?_); rintro e w2 ⟨rfl, hb⟩; have HB2 := Lib.hid (HB1.out.trans (hb.mono HB1.out.size)); clear hb))
    go_ret
    exact ⟨rfl, HB2.out⟩
  | true =>
    unfold rightY at hg
    rw [Bool.and_eq_true, decide_eq_true_eq] at hg
    have hlen := lightY_iff hg.1
    have hnd := (check_zero hg.2).2.2.1
    have hm9 : ms.length ≤ 200 := by have := hlen.1; omega
    have hId := fun (most : Int) V (hV : Below w.heap.size w V) => idle_any a c ka kc ms bs most V (hF.mono hV) (hG.mono hV) (by omega) (by have := hlen.2.1; omega)
    have hFi := fun (x : ByteArray) V (hV : Below w.heap.size w V) => rfind_any a ka ms x V (hF.mono hV) (by omega)
    have hUs := fun (m : Mac) V (hV : Below w.heap.size w V) => use_any m c kc bs V (hG.mono hV) (by have := hlen.2.1; omega)
    have HAt := Lib.hid (fun i x h => idle_at (ms := ms) (bs := bs) (q := q) (i := i) (x := x) h hnd)
    have hsub := idle_sub ms bs q
    have hno := idle_none ms bs
    have ha9 := idle_len ms bs q
    have hb9 := idle_len ms bs (q + 1)
    have HML := Lib.hid hF
    have HI1 := Lib.hid (hId q)
    have HI2 := Lib.hid (hId (q + 1))
    have HI3 := Lib.hid (hId 0)
    rw [hno] at HI3
    have HFi := Lib.hid hFi
    have HUs := Lib.hid (show ∀ (m : Mac) V, Below w.heap.size w V → Calls Try.prog 11 #[.agg #[.string (m).nm, .string (m).gp, .int .i64 (m).r0, .int .i64 (m).r1, .int .i64 (m).r2, .int .i64 (m).r3, .int .i64 (m).r4, .slice (m).la (m).labs.length (m).lk, .slice (m).ta (m).tnts.length (m).tk, .bool (m).rd], .slice c bs.length kc] V fun e w' => e = .returned (.int .i64 (useB m bs)) ∧ Below V.heap.size V w' from hUs)
    obtain ⟨A, hA'⟩ : ∃ A, idleL ms bs q = A := ⟨_, rfl⟩
    obtain ⟨B, hB'⟩ : ∃ B, idleL ms bs (q + 1) = B := ⟨_, rfl⟩
    rw [hA'] at hsub ha9 HAt HI1
    rw [hB'] at hsub hb9 HI2
    obtain ⟨na, hna⟩ : ∃ n, A.length = n := ⟨_, rfl⟩
    obtain ⟨nb, hnb⟩ : ∃ n, B.length = n := ⟨_, rfl⟩
    have Hna := Lib.hid hna
    have Hnb := Lib.hid hnb
    have Hn := Lib.hid hn
    rw [hna, hn] at ha9
    rw [hnb, hn] at hb9
    rw [hn] at hm9
    have HSub := Lib.hid hsub
    rw [hn, hN] at hRt HI1 HI2 HI3 ⊢
    rw [hn] at HFi
    rw [hN] at HUs
    have HRt := Lib.hid hRt
    clear hRt hg hlen hnd hId hFi hUs hF hG hA hB hl hl2 hN hn hA' hB' hna hnb hsub hno
    go_enter Try.func3, Try.ntmps3
    go_wp2_with (first
      | (go_at_call 7; (with_reducible refine (HRt.out).mono ?_); rintro e w1 ⟨rfl, hb⟩; have HB1 := Lib.hid hb; clear hb)
      | (go_at_call 9; (with_reducible refine (HI1.out _ HB1.out).mono ?_); rintro e w2 ⟨⟨v, rfl, hv⟩, hb⟩; obtain ⟨aa, kx, rfl, -, hr⟩ := IsL.of_own scs_len (by decide) hv; have HT2 := Lib.hid hr; have HB2 := Lib.hid (HB1.out.trans (hb.mono HB1.out.size)); clear hv hr hb; rw [Hna.out])
      | (go_at_call 9; (with_reducible refine (HI2.out _ HB2.out).mono ?_); rintro e w3 ⟨⟨v, rfl, hv⟩, hb⟩; obtain ⟨ab, ky, rfl, -, hr⟩ := IsL.of_own scs_len (by decide) hv; have HT3 := Lib.hid hr; have HA3 := Lib.hid (HT2.out.mono hb); have HB3 := Lib.hid (HB2.out.trans (hb.mono HB2.out.size)); clear hv hr hb; rw [Hnb.out]))
    obtain ⟨V3, hV3⟩ : ∃ V3, V3 = w3 := ⟨_, rfl⟩
    rw [← hV3] at HT3 HA3 HB3 ⊢
    clear hV3 HT2 HB1 HB2 HRt HI1 HI2
    go_loopw [9, 10] (fun vt vi wr => ∃ (t i : Nat), i ≤ na ∧ t ≤ nb ∧ vi = .int .i64 i ∧ vt = .int .i64 t ∧ (A.drop i).Sublist (B.drop t) ∧ Below V3.heap.size V3 wr) (fun _ vi _ => na - (intOf vi).toNat)
    case atStart => exact ⟨0, 0, Nat.zero_le _, Nat.zero_le _, rfl, rfl, HSub.out, Below.refl _ _⟩
    case round =>
      obtain ⟨t, i, hi, ht, rfl, rfl, hS, hB⟩ := hrel
      have HS := Lib.hid hS
      have HBr := Lib.hid hB
      by_cases hlt : i < na
      · obtain ⟨x, hx⟩ := mem_at (l := A) (k := i) (by rw [Hna.out]; exact hlt)
        obtain ⟨qa, oa, rfl, hqa, hca⟩ := HA3.out (by rw [Hna.out]; omega)
        have HCa := Lib.hid (show V3.cell? ⟨qa, oa + i, none⟩ = some (.string x) ∧ qa < V3.heap.size by
          have h9 := hca i x hx 0 (by decide)
          rw [Nat.mul_one] at h9
          exact ⟨h9, hqa⟩)
        have HX := Lib.hid hx
        clear hS hB hca hx hqa
        go_wp2
        go_loopw [9] (fun vt wy => ∃ t : Nat, t ≤ nb ∧ vt = .int .i64 t ∧ (A.drop i).Sublist (B.drop t) ∧ Below V3.heap.size V3 wy) (fun vt _ => nb - (intOf vt).toNat)
        case atStart => exact ⟨t, ht, rfl, HS.out, HBr.out⟩
        case round =>
          clear ht HS HBr
          obtain ⟨t, ht, rfl, hS, hBr⟩ := hrel
          have HBr := Lib.hid hBr
          have ca : wr.cell? ⟨qa, oa + i, none⟩ = some (.string x) := (hBr.cell (p := ⟨qa, oa + i, none⟩) HCa.out.2).trans HCa.out.1
          have hqa := Nat.lt_of_lt_of_le HCa.out.2 hBr.size
          clear hBr
          obtain ⟨y, hy, hno, hyes⟩ := sub_step hS HX.out
          have htn : t < nb := by rw [← Hnb.out]; exact (List.getElem?_eq_some_iff.1 hy).1
          obtain ⟨qb, ob, rfl, hqb, hcb⟩ := (HT3.out.mono HBr.out) (by rw [Hnb.out]; omega)
          have cb : wr.cell? ⟨qb, ob + t, none⟩ = some (.string y) := by
            have h9 := hcb t y hy 0 (by decide)
            rw [Nat.mul_one] at h9
            exact h9
          have hqt : ((t : Int) == (nb : Int)) = false := by rw [beq_eq_false_iff_ne]; omega
          clear hS hcb hy
          by_cases he : y = x
          · have q1 := str_yes he
            have HNx := Lib.hid hyes
            clear hno hyes he
            obtain ⟨k, m, hk, hf, hgp, hrd, hus⟩ := HAt.out i x HX.out
            have HFx := Lib.hid (HFi.out x)
            rw [hf] at HFx
            have hkn : k < n := by rw [← Hn.out]; exact (List.getElem?_eq_some_iff.1 hk).1
            have hbw := HB3.out.trans (HBr.out.mono HB3.out.size)
            obtain ⟨qm, om, rfl, hqm, hcm⟩ := (HML.out.mono hbw) (by rw [Hn.out]; omega)
            have HRm := Lib.hid (show wr.rangeAt qm (om + k * 10) [.string (m).nm, .string (m).gp, .int .i64 (m).r0, .int .i64 (m).r1, .int .i64 (m).r2, .int .i64 (m).r3, .int .i64 (m).r4, .slice (m).la (m).labs.length (m).lk, .slice (m).ta (m).tnts.length (m).tk, .bool (m).rd] from fun j v hj => by
              have hj10 : j < 10 := (List.getElem?_eq_some_iff.1 hj).1
              rw [hcm k m hk j hj10]
              exact hj)
            have HM1 := Lib.hid (show wr.cell? ⟨qm, om + k * 10 + 1, none⟩ = some (.string m.gp) from hcm k m hk 1 (by decide))
            have HM9 := Lib.hid (show wr.cell? ⟨qm, om + k * 10 + 9, none⟩ = some (.bool true) from by rw [← hrd]; exact hcm k m hk 9 (by decide))
            have q2 := (emp_no hgp).2.2
            have HUm := Lib.hid (HUs.out m)
            obtain ⟨u, hu⟩ : ∃ u, useB m bs = u := ⟨_, rfl⟩
            rw [hu] at HUm hus
            have hge : (q ≤ u) = False := eq_false (by omega)
            have hge2 : ¬ q ≤ u := by omega
            have hk0 : ((k : Int) < 0) = False := by simp
            have HBw := Lib.hid hbw
            clear hf hk hgp hrd hcm hu hbw
            go_upto_region 9 with (fail)
            have hcH := held_cell
            refine region_rel (by kernel_rfl) (by kernel_rfl) ?_
            repeat
              ((with_reducible refine relStep (fun K hK => ?_))
               (have HK := Lib.hid hK)
               clear hK
               (apply relInl
                · intro r n hf
                  have Hf := Lib.hid hf
                  clear hf
                  (first
                    | (fail)
                    | (unfold relAt
                       go_simp
                       (first | (refine relUpon_val ?_ (Below.refl _ _); exact rfl) | exact rfl | (refine relUpon_enter ?_; fail))))
                (simp only [Act.put, List.setIfInBounds_toArray, List.set_cons_zero, List.set_cons_succ])
                (with_reducible refine HK.out _ _ ?_)
                clear HK K))
            refine relNil ?_
            intro r5 n5 hx5
            clear hcH
            (try simp only [List.nil_append, List.cons_append, List.mem_cons, List.not_mem_nil, or_false, forall_eq_or_imp, forall_eq, false_implies, implies_true] at hx5)
            obtain ⟨w5, hb5⟩ := n5
            (try dsimp only)
            obtain ⟨hc5, hf5⟩ := bcell hb5
            have hz5 := hb5.size
            (try simp at hz5)
            have HC5 := Lib.hid hb5
            have ca5 : w5.cell? ⟨qa, oa + i, none⟩ = some (.string x) := (hb5.cell (p := ⟨qa, oa + i, none⟩) hqa).trans ca
            have hqa5 := Nat.lt_of_lt_of_le hqa hb5.size
            have HB5 := Lib.hid (HBw.out.trans (hb5.mono HBw.out.size))
            clear hb5 hc5 hf5 hz5 ca cb
            go_upto_region 12 with (go_at_call 10; (with_reducible refine (HFx.out _ HB5.out).mono ?_); rintro e w6 ⟨rfl, hb⟩; have HC6 := Lib.hid (HC5.out.trans (hb.mono HC5.out.size)); have HB6 := Lib.hid (HB5.out.trans (hb.mono HB5.out.size)); clear hb)
            have d1 : w6.cell? ⟨qm, om + k * 10 + 1, none⟩ = some (.string m.gp) := (HC6.out.cell (p := ⟨qm, om + k * 10 + 1, none⟩) hqm).trans HM1.out
            have d9 : w6.cell? ⟨qm, om + k * 10 + 9, none⟩ = some (.bool true) := (HC6.out.cell (p := ⟨qm, om + k * 10 + 9, none⟩) hqm).trans HM9.out
            have HR6 := Lib.hid (rangeAt_mono HRm.out hqm HC6.out)
            have hqm6 := Nat.lt_of_lt_of_le hqm HC6.out.size
            clear ca5 hqa5
            go_wp2_with (first
              | ((with_reducible refine at_load (ty := 35) ?_); refine load_cells rfl 35 (.tmp 84) rfl qm (om + k * 10) rfl [.string (m).nm, .string (m).gp, .int .i64 (m).r0, .int .i64 (m).r1, .int .i64 (m).r2, .int .i64 (m).r3, .int .i64 (m).r4, .slice (m).la (m).labs.length (m).lk, .slice (m).ta (m).tnts.length (m).tk, .bool (m).rd] _ Try.underlying35 rfl (by kernel_rfl) HR6.out ?_)
              | (go_at_call 11; (with_reducible refine (HUm.out _ HB6.out).mono ?_); rintro e w7 ⟨rfl, hb⟩; have HC7 := Lib.hid (HC6.out.trans (hb.mono HC6.out.size)); clear hb))
            go_roundw
            case rel => exact ⟨t, i + 1, by omega, ht, by go_num, rfl, HNx.out, HBr.out.trans (HC7.out.mono HBr.out.size)⟩
            case measure => simp [intOf]; omega
          · have q1 := str_no he
            have HNx := Lib.hid (hno he)
            clear hno hyes he
            go_upto_region 9 with (fail)
            have hcH := held_cell
            refine region_rel (by kernel_rfl) (by kernel_rfl) ?_
            repeat
              ((with_reducible refine relStep (fun K hK => ?_))
               (have HK := Lib.hid hK)
               clear hK
               (apply relInl
                · intro r n hf
                  have Hf := Lib.hid hf
                  clear hf
                  (first
                    | (fail)
                    | (unfold relAt
                       go_simp
                       (first | (refine relUpon_val ?_ (Below.refl _ _); exact rfl) | exact rfl | (refine relUpon_enter ?_; fail))))
                (simp only [Act.put, List.setIfInBounds_toArray, List.set_cons_zero, List.set_cons_succ])
                (with_reducible refine HK.out _ _ ?_)
                clear HK K))
            refine relNil ?_
            intro r5 n5 hx5
            clear hcH
            (try simp only [List.nil_append, List.cons_append, List.mem_cons, List.not_mem_nil, or_false, forall_eq_or_imp, forall_eq, false_implies, implies_true] at hx5)
            obtain ⟨w5, hb5⟩ := n5
            (try dsimp only)
            obtain ⟨hc5, hf5⟩ := bcell hb5
            have hz5 := hb5.size
            (try simp at hz5)
            go_wp2
            go_roundw
            case rel => exact ⟨t + 1, by omega, by go_num, HNx.out, HBr.out.trans (hb5.mono HBr.out.size)⟩
            case measure => simp [intOf]; omega
      · obtain rfl : i = na := by omega
        have HBw := Lib.hid (HB3.out.trans (hB.mono HB3.out.size))
        clear hS hB
        go_wp2_with (first
          | (go_at_call 9; (with_reducible refine (HI3.out _ HBw.out).mono ?_); rintro e w5 ⟨⟨v, rfl, hv⟩, hb⟩; obtain ⟨az, kz, rfl⟩ := own_sl hv; have HB5 := Lib.hid (HBw.out.trans (hb.mono HBw.out.size)); clear hv hb)
          | (go_at_call 8; (with_reducible refine (bknown_any _).mono ?_); rintro e w6 ⟨rfl, hb⟩; have HB6 := Lib.hid (HB5.out.trans (hb.mono HB5.out.size)); clear hb))
        go_ret
        exact ⟨rfl, HB6.out⟩
set_option maxRecDepth 100000 in
theorem walk {H : Type} {enc : TypeId × Value → H} {W : World} {base : Nat} {v u : Value} {d e : DataW H} {p q : List MemPlace} (x : Int) (hx0 : 0 ≤ x) (hx1 : x ≤ 65535)
    (hv : Value.okWide Try.prog W .any base 22 v) (h : DataW.Trod enc Try.prog W 0 (fun _ => true) true 22 v d p)
    (hu : Value.okWide Try.prog W .any base 23 u) (h2 : DataW.Trod enc Try.prog W 0 (fun _ => true) true 23 u e q) :
    Calls Try.prog 3 #[v, u, .int .u16 x] W fun e W' => e = .returned (.bool true) ∧ Below W.heap.size W W' := by
  obtain ⟨a, l, k, rfl, -, hF, hm, -, hI⟩ := open_macs hv h
  obtain ⟨c, l2, k2, rfl, -, hG, hm2, -, hI2⟩ := open_bnds hu h2
  exact walk1 a k l c k2 l2 x W hF hG hI hI2 hm hm2 hx0 hx1

set_option maxRecDepth 100000 in
theorem lifted (os : Os) (started : os.Started) (H : Type) (enc : TypeId × Value → H) :
    ReturnsInHanded {} Try.checked os 3 .any (Rows.blockIdleSpec.pre6 enc Try.prog Try.f3 Rows.blockIdleRow.domain false) (Rows.blockIdleSpec.post enc Try.prog Try.f3 false true false false) := by
  refine returnsInHanded_of_change (C := Try.checked) Try.own started (by kernel_rfl) Try.func3
    (ChangeSpec.witness6 (enc := enc) (C := Try.checked) false ⟨#[], #[.slice none 0 0, .slice none 0 0, .int .u16 0], []⟩ 8 (by kernel_rfl) (by kernel_rfl) (by kernel_rfl) (by kernel_rfl)) ?_
  intro W base args ds gs before hval hW _ _
  have hW' := hW
  obtain ⟨p, q, hA, hV, rfl, hfz, hnd⟩ := hW
  rw [Try.params3] at hA hval
  obtain ⟨v0, v1, v2, d0, d1, d2, p0, p1, p2, rfl, rfl, rfl, h0, h1, h2⟩ := trodAll_three hA
  obtain ⟨x, rfl, _, _, wx⟩ := open_int Try.underlying24 (hval 2 24 v2 rfl rfl) h2
  have hx : 0 ≤ x ∧ x ≤ 65535 := by simpa [Lit.wf, IntKind.min, IntKind.max, IntKind.signed, IntKind.bits] using wx
  refine (walk x hx.1 hx.2 (hval 0 22 v0 rfl rfl) h0 (hval 1 23 v1 rfl rfl) h1).mono fun e W' ⟨he, hb⟩ => ?_
  exact ⟨_, he, law_post Try.laidOut hW' rfl (by kernel_rfl) (by kernel_rfl) Try.underlying4 rfl rfl rfl hb⟩

theorem over : Rows.blockIdleRow.holds Try.pinned (OpenSpec.ofChange Rows.blockIdleSpec) :=
  OpenClaim.holds_of_wide 3 Try.f3 rfl rfl rfl rfl rfl rfl rfl ⟨rfl, rfl, rfl, rfl, rfl⟩ rfl rfl rfl rfl rfl (by kernel_rfl) Try.func3 (by kernel_rfl)
    (of_decide_eq_true (by kernel_rfl)) (by unfold Func.isWrapper; first | (rw [if_pos (by decide +kernel)]; kernel_rfl) | (rw [if_neg (by decide +kernel)]; exact ⟨rfl, rfl⟩))
    (fun os started H enc _ => lifted os started H enc)

/-- The statement. -/
theorem proved : Rows.BlockIdleSaid := over
end blockIdle
end Go.Proofs.Ytkmhicoimgpdlaa
