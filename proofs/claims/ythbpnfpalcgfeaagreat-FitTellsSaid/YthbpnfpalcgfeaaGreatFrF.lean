/-
  The document's Counts.
-/
import Derived.Test.YthbpnfpalcgfeaaGreatFrE
namespace Go.Proofs.YthbpnfpalcgfeaaGreat
open Go.RowKit
set_option linter.unusedVariables false
set_option linter.unusedSimpArgs false

set_option maxRecDepth 100000 in
set_option maxHeartbeats 16000000 in
theorem refcounts_any (a c : Option Addr) (ka kc : Nat) (ms : List Mac) (bs : List Bd) (p : Pd) (w : World) (hY : YA w a ms c bs) (hP : PodAt w p) (hp : lightP p = true) (hq : YQ ms bs) :
    Calls Tryz.prog 85 #[.slice a ms.length ka, .slice c bs.length kc, .agg (prow p).toArray] w (GivesC w (zonesY ms) (numsC ms bs p)) := by
  have hzo := fun V (hV : Below w.heap.size w V) => refzones_any a ka ms V (hY.ml.mono hV) (fun m hm => (hY.mi m hm).mono hV) (fun m hm => (hY.mi m hm).here.ll) (by have := hY.mm; omega)
  have hHas := fun (b : Bd) (hb : b ∈ bs) V (hV : Below w.heap.size w V) => Lb.refhas_any b.p.la p.da b.p.lk p.dk b.p.labs p.spds V ((hY.bi b hb).mono hV).here.labs ((hP.mono hV).spds) (by have := lightP_lens (hY.lb b hb); omega) (by have := lightP_lens hp; omega) (hq.hb b hb).2.1
  have hZn := fun (x : ByteArray) V (hV : Below w.heap.size w V) => refzone_any a ka ms x V (hY.ml.mono hV) (fun m hm => ((hY.mi m hm).mono hV).here) (by have := hY.mm; omega)
  have hNe : numsC ms bs p = (zonesY ms).map fun z => (rfCnt ms bs p z : Int) := by
    unfold numsC
    refine List.map_congr_left fun z _ => ?_
    rw [cnt_ref hq.nd p z bs]
  have hZl := zonesY_len ms
  have hnb := hY.mm
  have hNb := hY.bb
  obtain ⟨Z, hZ⟩ : ∃ Z, zonesY ms = Z := ⟨_, rfl⟩
  obtain ⟨L, hL⟩ : ∃ L, numsC ms bs p = L := ⟨_, rfl⟩
  rw [hZ, hL] at hNe
  simp only [hZ] at hzo
  rw [hZ] at hZl
  rw [hZ, hL]
  obtain ⟨nz, hnz⟩ : ∃ nz, Z.length = nz := ⟨_, rfl⟩
  have Hnz := Lib.hid hnz
  have HNe := Lib.hid hNe
  rw [hnz] at hZl
  obtain ⟨W, hW⟩ : ∃ W, W = (w.alloc (.cells #[.string (p).nm, .int .i64 (p).n0, .int .i64 (p).n1, .int .i64 (p).n2, .int .i64 (p).n3, .int .i64 (p).n4, .slice (p).la (p).labs.length (p).lk, .slice (p).sa (p).sels.length (p).sk, .slice (p).ta (p).trms.length (p).tk, .slice (p).ba (p).bers.length (p).bk, .slice (p).pa (p).prts.length (p).pk, .slice (p).aa (p).aprs.length (p).ak, .bool (p).wd, .slice (p).da (p).spds.length (p).dk, .int .i64 (p).sw, .int .i64 (p).rk, .string (p).ow, .bool (p).dm, .bool (p).pn, .bool (p).lc] 31)) := ⟨_, rfl⟩
  have hX : Box w.heap.size (prow p) W := by rw [hW]; exact (Box.new w (prow p) 31)
  have hbw : Below w.heap.size w W := by rw [hW]; exact (Below.refl _ _).alloc (Nat.le_refl _) _
  have HB := Lib.hid hbw
  have HX := Lib.hid hX
  have HYA := Lib.hid hY
  obtain ⟨N, hN⟩ : ∃ N, bs.length = N := ⟨_, rfl⟩
  obtain ⟨n, hn⟩ : ∃ n, ms.length = n := ⟨_, rfl⟩
  have HN := Lib.hid hN
  have Hn := Lib.hid hn
  rw [hN] at hNb
  simp only [hn] at hzo hZn
  rw [hn] at hZl hnb
  rw [hn, hN]
  have HZo := Lib.hid hzo
  have HHas := Lib.hid hHas
  have HZn := Lib.hid hZn
  obtain ⟨i0, hi, hz0, hz1, hz2⟩ := info_parts Tryz.info3
  have Hi := Lib.hid hi
  have Hz0 := Lib.hid hz0
  have Hz1 := Lib.hid hz1
  have Hz2 := Lib.hid hz2
  clear hi hz0 hz1 hz2
  show Calls Tryz.prog 85 #[.slice a n ka, .slice c N kc, .agg #[.string (p).nm, .int .i64 (p).n0, .int .i64 (p).n1, .int .i64 (p).n2, .int .i64 (p).n3, .int .i64 (p).n4, .slice (p).la (p).labs.length (p).lk, .slice (p).sa (p).sels.length (p).sk, .slice (p).ta (p).trms.length (p).tk, .slice (p).ba (p).bers.length (p).bk, .slice (p).pa (p).prts.length (p).pk, .slice (p).aa (p).aprs.length (p).ak, .bool (p).wd, .slice (p).da (p).spds.length (p).dk, .int .i64 (p).sw, .int .i64 (p).rk, .string (p).ow, .bool (p).dm, .bool (p).pn, .bool (p).lc]] w _
  clear hzo hHas hZn hNe hX hbw hY hP hp hq hN hn hZ hL hnz
  go_enter Tryz.func85, Tryz.ntmps85
  go_upto_region 1 with (fail)
  rw [← hW]
  clear hW
  go_wp2_with (go_at_call 107; (with_reducible refine (HZo.out _ HB.out).mono ?_); rintro e w3 ⟨⟨v, rfl, hv⟩, hb3⟩; obtain ⟨az, kz, rfl, -, hrz⟩ := IsL.of_own scs_len (by decide) hv; have HT3 := Lib.hid hrz; have HX3 := Lib.hid (HX.out.mono hb3); have HB3 := Lib.hid (HB.out.trans (hb3.mono HB.out.size)); clear hv hrz hb3; rw [Hnz.out])
  obtain ⟨V3, hV3⟩ : ∃ V3, V3 = w3 := ⟨_, rfl⟩
  rw [← hV3] at HT3 HX3 HB3 ⊢
  clear hV3 HB HX HZo
  go_loopw [9, 10] (fun vo vi wr => ∃ (t : Nat) (Q : List Int), t ≤ nz ∧ vi = .int .i64 t ∧ Q = (Z.take t).map (fun z => (rfCnt ms bs p z : Int)) ∧ Q.length = t ∧ wr.ownsRow V3.heap.size 3 1 vo Q.length (Q.flatMap pcs) ∧ Below V3.heap.size V3 wr) (fun _ vi _ => nz - (intOf vi).toNat)
  case atStart => exact ⟨0, [], Nat.zero_le _, rfl, rfl, rfl, World.ownsRow_nil _ _ _ _, Below.refl _ _⟩
  case round =>
    obtain ⟨t, Q, ht, rfl, hE, hLk, hO, hB⟩ := hrel
    have HE := Lib.hid hE
    have Hlk := Lib.hid hLk
    obtain ⟨ao, ko, rfl⟩ := own_sl hO
    by_cases hlt : t < nz
    · obtain ⟨z, hz⟩ := mem_at (l := Z) (k := t) (by rw [Hnz.out]; exact hlt)
      obtain ⟨qz, oz, rfl, hqz, hcz⟩ := (HT3.out.mono hB) (by rw [Hnz.out]; omega)
      have cz : wr.cell? ⟨qz, oz + t, none⟩ = some (.string z) := by
        have h9 := hcz t z hz 0 (by decide)
        rw [Nat.mul_one] at h9
        exact h9
      have HNx := Lib.hid (fun (x : Nat) (hx : rfCnt ms bs p z = x) => show Q ++ [(x : Int)] = (Z.take (t + 1)).map (fun z => (rfCnt ms bs p z : Int)) by rw [List.take_add_one, hz, List.map_append, hE, ← hx]; rfl)
      obtain ⟨V, hV⟩ : ∃ V, V = wr := ⟨_, rfl⟩
      have HBV := Lib.hid (show Below V3.heap.size V3 V by rw [hV]; exact hB)
      have HOV := Lib.hid (show V.ownsRow V3.heap.size 3 1 (.slice ao Q.length ko) Q.length (Q.flatMap pcs) by rw [hV]; exact hO)
      have HCz := Lib.hid (show V.cell? ⟨qz, oz + t, none⟩ = some (.string z) ∧ qz < V.heap.size by rw [hV]; exact ⟨cz, hqz⟩)
      have HXV := Lib.hid (HX3.out.mono HBV.out)
      have HBw := Lib.hid (HB3.out.trans (HBV.out.mono HB3.out.size))
      have hQl : Q.length ≤ 1000 := by omega
      rw [← hV]
      clear hV hE hO hB hz hcz cz hqz hLk
      go_wp2
      go_loopw [11, 12] (fun vk vj wy => ∃ j : Nat, j ≤ N ∧ vj = .int .i64 j ∧ vk = .int .i64 (rfCnt ms (bs.take j) p z : Nat) ∧ Below V.heap.size V wy) (fun _ vj _ => N - (intOf vj).toNat)
      case atStart => exact ⟨0, Nat.zero_le _, rfl, rfl, Below.refl _ _⟩
      case round =>
        obtain ⟨j, hj, rfl, rfl, hC⟩ := hrel
        have HC := Lib.hid hC
        by_cases hlt2 : j < N
        · obtain ⟨b, hbk⟩ := mem_at (l := bs) (k := j) (by rw [HN.out]; exact hlt2)
          have hbm := List.mem_of_getElem? hbk
          have hbwr := HBw.out.trans (hC.mono HBw.out.size)
          obtain ⟨q, o, rfl, hq, hc⟩ := (HYA.out.bl.mono hbwr) (by rw [HN.out]; omega)
          have HC0 := Lib.hid (show wr.cell? ⟨q, o + j * 21, none⟩ = some (.string b.p.nm) from hc j b hbk 0 (by decide))
          have HC6 := Lib.hid (show wr.cell? ⟨q, o + j * 21 + 6, none⟩ = some (.slice b.p.la b.p.labs.length b.p.lk) from hc j b hbk 6 (by decide))
          have c20 : wr.cell? ⟨q, o + j * 21 + 20, none⟩ = some (.string b.on) := hc j b hbk 20 (by decide)
          have HC20 := Lib.hid c20
          have hle := rfCnt_le ms (bs.take j) p z
          have hle2 := List.length_take_le j bs
          have hnx := rfCnt_next (ms := ms) hbk p z
          obtain ⟨cn, hcn⟩ : ∃ x, rfCnt ms (bs.take j) p z = x := ⟨_, rfl⟩
          rw [hcn] at hnx hle ⊢
          obtain ⟨zb, hzb⟩ : ∃ x, zB ms b.on = x := ⟨_, rfl⟩
          obtain ⟨zv, hzv⟩ : ∃ x, zV ms b.on = x := ⟨_, rfl⟩
          obtain ⟨h, hh⟩ : ∃ x, Lb.hasP b.p.labs p.spds = x := ⟨_, rfl⟩
          have hqf : rfQ ms p z b = (((!decide (b.on = emp) && !decide (b.p.nm = p.nm)) && h) && (zb && decide (zv = z))) := by
            unfold rfQ onP zAt matB
            rw [hh, hzb, hzv]
          have HNy := Lib.hid (fun (hy : rfQ ms p z b = true) => show rfCnt ms (bs.take (j + 1)) p z = cn + 1 by rw [hnx, if_pos hy])
          have HNn := Lib.hid (fun (hy : rfQ ms p z b = false) => show rfCnt ms (bs.take (j + 1)) p z = cn by rw [hnx, if_neg (by rw [hy]; exact Bool.false_ne_true)]; rfl)
          rw [hqf] at HNy HNn
          have hw9 : IntKind.i64.wrap ((cn : Int) + 1) = (cn : Int) + 1 := wrap_in (by omega) (by omega)
          have HZb := Lib.hid (show ∀ U, Below wr.heap.size wr U → Calls Tryz.prog 84 #[.slice a n ka, .string b.on] U fun e w' => e = .returned (.tuple #[.string zv, .bool zb]) ∧ Below U.heap.size U w' from fun U hU => by
            have h9 := HZn.out b.on U (hbwr.trans (hU.mono hbwr.size))
            rw [hzv, hzb] at h9
            exact h9)
          have HHs := Lib.hid (show ∀ U, Below wr.heap.size wr U → Calls Tryz.prog 76 #[.slice b.p.la b.p.labs.length b.p.lk, .slice p.da p.spds.length p.dk] U fun e w' => e = .returned (.bool h) ∧ Below U.heap.size U w' from fun U hU => by
            have h9 := HHas.out b hbm U (hbwr.trans (hU.mono hbwr.size))
            rw [hh] at h9
            exact h9)
          clear hC hc hbk hbm hbwr hnx hcn hzb hzv hh hqf
          have C : (b.on.toList.isEmpty = true ∧ rfCnt ms (bs.take (j + 1)) p z = cn) ∨ (b.on.toList.isEmpty = false ∧ (b.p.nm.toList == p.nm.toList) = true ∧ rfCnt ms (bs.take (j + 1)) p z = cn) ∨ (b.on.toList.isEmpty = false ∧ (b.p.nm.toList == p.nm.toList) = false ∧ ((zb = false ∧ rfCnt ms (bs.take (j + 1)) p z = cn) ∨ (zb = true ∧ (((zv.toList == z.toList) = false ∧ rfCnt ms (bs.take (j + 1)) p z = cn) ∨ ((zv.toList == z.toList) = true ∧ ((h = false ∧ rfCnt ms (bs.take (j + 1)) p z = cn) ∨ (h = true ∧ rfCnt ms (bs.take (j + 1)) p z = cn + 1)))))) ) := by
            by_cases h1 : b.on = emp
            · exact .inl ⟨(emp_yes h1).2.2, HNn.out (by rw [decide_eq_true h1]; rfl)⟩
            · by_cases h2 : b.p.nm = p.nm
              · exact .inr (.inl ⟨(emp_no h1).2.2, str_yes h2, HNn.out (by rw [decide_eq_true h2, decide_eq_false h1]; rfl)⟩)
              · refine .inr (.inr ⟨(emp_no h1).2.2, str_no h2, ?_⟩)
                rw [decide_eq_false h1, decide_eq_false h2] at HNy HNn
                cases zb with
                | false => exact .inl ⟨rfl, HNn.out (by simp)⟩
                | true =>
                  refine .inr ⟨rfl, ?_⟩
                  by_cases h3 : zv = z
                  · refine .inr ⟨str_yes h3, ?_⟩
                    rw [decide_eq_true h3] at HNy HNn
                    cases h with
                    | false => exact .inl ⟨rfl, HNn.out rfl⟩
                    | true => exact .inr ⟨rfl, HNy.out rfl⟩
                  · exact .inl ⟨str_no h3, HNn.out (by rw [decide_eq_false h3]; simp)⟩
          clear HNy HNn
          rcases C with ⟨q1, e⟩ | ⟨q1, q2, e⟩ | ⟨q1, q2, ⟨rfl, e⟩ | ⟨rfl, ⟨q3, e⟩ | ⟨q3, ⟨rfl, e⟩ | ⟨rfl, e⟩⟩⟩⟩
          all_goals
            have HNx2 := Lib.hid e
            clear e
            go_upto_region 11 with (go_at_call 84; (with_reducible refine (HZb.out _ (Below.refl _ _)).mono ?_); rintro e w5 ⟨rfl, hb⟩; have HB5 := Lib.hid hb; clear hb)
            have d0 : w5.cell? ⟨w.heap.size, 0, none⟩ = some (.string p.nm) := ((HXV.out.mono HC.out).mono HB5.out).cell 0
            have d13 : w5.cell? ⟨w.heap.size, 13, none⟩ = some (.slice p.da p.spds.length p.dk) := ((HXV.out.mono HC.out).mono HB5.out).cell 13
            have dl := ((HXV.out.mono HC.out).mono HB5.out).lt
            have e0 : w5.cell? ⟨q, o + j * 21, none⟩ = some (.string b.p.nm) := (HB5.out.cell (p := ⟨q, o + j * 21, none⟩) hq).trans HC0.out
            have e6 : w5.cell? ⟨q, o + j * 21 + 6, none⟩ = some (.slice b.p.la b.p.labs.length b.p.lk) := (HB5.out.cell (p := ⟨q, o + j * 21 + 6, none⟩) hq).trans HC6.out
            have e20 : w5.cell? ⟨q, o + j * 21 + 20, none⟩ = some (.string b.on) := (HB5.out.cell (p := ⟨q, o + j * 21 + 20, none⟩) hq).trans HC20.out
            have hq5 : q < w5.heap.size := Nat.lt_of_lt_of_le hq HB5.out.size
            have ez : w5.cell? ⟨qz, oz + t, none⟩ = some (.string z) := ((HC.out.trans (HB5.out.mono HC.out.size)).cell (p := ⟨qz, oz + t, none⟩) HCz.out.2).trans HCz.out.1
            have hqz5 : qz < w5.heap.size := Nat.lt_of_lt_of_le HCz.out.2 (HC.out.trans (HB5.out.mono HC.out.size)).size
            clear c20
            have hcH := held_cell
            refine region_rel (by kernel_rfl) (by kernel_rfl) ?_
            repeat
              ((with_reducible refine relStep (fun K hK => ?_))
               (have HK := Lib.hid hK)
               clear hK
               (apply relInl
                · intro r n hf
                  have Hf := Lib.hid hf
                  clear hf
                  (first
                    | (fail)
                    | (unfold relAt
                       go_simp
                       (first | (refine relUpon_val ?_ (Below.refl _ _); exact rfl) | exact rfl | (refine relUpon_enter ?_; (go_at_call 76; (with_reducible refine (HHs.out _ (HB5.out.trans (n.below.mono HB5.out.size))).mono ?_); rintro e w9 ⟨rfl, hb⟩; exact ⟨⟨_, rfl, rfl⟩, hb⟩)))))
                (simp only [Act.put, List.setIfInBounds_toArray, List.set_cons_zero, List.set_cons_succ])
                (with_reducible refine HK.out _ _ ?_)
                clear HK K))
            refine relNil ?_
            intro r9 n9 hx9
            clear hcH
            (try simp only [List.nil_append, List.cons_append, List.mem_cons, List.not_mem_nil, or_false, forall_eq_or_imp, forall_eq, false_implies, implies_true] at hx9)
            obtain ⟨w9, hb9⟩ := n9
            (try dsimp only)
            obtain ⟨hc9, hf9⟩ := bcell hb9
            have hz9 := hb9.size
            (try simp at hz9)
            have HB9 := Lib.hid (HC.out.trans ((HB5.out.trans (hb9.mono HB5.out.size)).mono HC.out.size))
            clear hb9 hc9 hf9 hz9 d0 d13 dl e0 e6 e20 hq5 ez hqz5
            go_wp2
            go_roundw
            case rel => exact ⟨j + 1, by omega, by go_num, by first | (rw [HNx2.out]; done) | (rw [HNx2.out]; rfl), HB9.out⟩
            case measure => simp [intOf]; omega
        · obtain rfl : j = N := by omega
          have HNx2 := Lib.hid (HNx.out (rfCnt ms (bs.take j) p z) (by rw [List.take_of_length_le (Nat.le_of_eq HN.out)]))
          have hle := rfCnt_le ms (bs.take j) p z
          obtain ⟨cn, hcn⟩ : ∃ x, rfCnt ms (bs.take j) p z = x := ⟨_, rfl⟩
          rw [hcn] at HNx2 ⊢
          have HO4 := Lib.hid (own_kept HOV.out hC)
          have HB4 := Lib.hid (HBV.out.trans (hC.mono HBV.out.size))
          have hbz4 := HB4.out.size
          clear hC HC hcn HCz HXV HBw
          go_wp2_with (at_builtin; refine wpList_append_src rfl (.tmp 80) (.tmp 82) 29 rfl V3.heap.size 3 i0 _ 1 8 Tryz.underlying29 Hi.out Hz0.out Hz1.out Hz2.out rfl (by decide) _ Q.length (Q.flatMap pcs) rfl (HO4.out.alloc _) (some ⟨wr.heap.size, 0, none⟩) 1 1 (pcs (cn : Int)) rfl rfl (fun q e => by injection e with e; rw [← e]; exact news_at _ _ _) (fun e => by cases e) (pcs_one _) (by unfold maxLen; omega) (by omega) (by simp; omega) ?_; intro v6 w6 hown6 hgrow6; obtain ⟨a6, k6, rfl⟩ := own_sl hown6; have HB6 := Lib.hid (own_below (HO4.out.alloc _) (HB4.out.alloc hbz4 _) (by simp; omega) hgrow6); have HO6 := Lib.hid hown6; clear hown6 hgrow6)
          go_roundw
          case rel =>
            refine ⟨t + 1, Q ++ [(cn : Int)], by omega, by go_num, HNx2.out, by rw [List.length_append, Hlk.out]; rfl, ?_, HB6.out⟩
            rw [List.length_append, List.flatMap_append]
            have h9 := HO6.out
            simpa using h9
          case measure => simp [intOf]; omega
    · obtain rfl : t = nz := by omega
      have HQ := Lib.hid (show Q = L by rw [HNe.out, HE.out, List.take_of_length_le (Nat.le_of_eq Hnz.out)])
      have HTz := Lib.hid (HT3.out.mono hB)
      obtain ⟨_, _, e9, hnilq, hrq⟩ := IsL.of_own pcs_len (by decide) hO
      injection e9 with e1 e2 e3
      subst e1
      have HRq := Lib.hid hrq
      have HBw := Lib.hid (HB3.out.trans (hB.mono HB3.out.size))
      clear hE hO hB hrq hnilq e2 e3
      go_wp2
      refine bodyPost_ret (v := .tuple #[.slice az t kz, .slice ao Q.length ko]) (by simp [results, Tryz.results85, go_sem]) rfl ⟨⟨az, kz, ao, ko, ?_, HTz.out, by rw [← HQ.out]; exact HRq.out⟩, HBw.out⟩
      rw [← HQ.out, Hnz.out]
end Go.Proofs.YthbpnfpalcgfeaaGreat
