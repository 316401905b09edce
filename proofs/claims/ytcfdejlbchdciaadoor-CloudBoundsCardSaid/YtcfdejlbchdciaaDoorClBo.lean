/-
  CloudBounds: whatever is asked, targets stay within their bounds; no name comes a second time, and none comes again that has gone; none is from the future.
-/
import Derived.Test.YtcfdejlbchdciaaDoorClBd
namespace Go.Proofs.YtcfdejlbchdciaaDoor
open Go.ChangeShapes Go.WideShapes Go.ChangeAt Go.RowKit
set_option linter.unusedVariables false
set_option linter.unusedSimpArgs false
namespace cloudBounds

theorem Tryd.info9 : (Tryd.prog.info? 9).map (fun i => (i.zero, i.size, i.bytes)) = some (some (.string ⟨#[]⟩), 1, 16) := by kernel_rfl
/-- What the law holds at the head of a round. -/
structure BI (V : World) (c : Nat) (G : List Gk) (k : Nat) (h g : Value) (w : World) : Prop where
  ex : ∃ (s : CS) (Hd Gn : List ByteArray), Prov V c s (k + 1) (h.ownBlock.toList ++ g.ownBlock.toList) w ∧ Hist s Hd Gn ∧ s.G = G ∧ OwnL scs 1 V.heap.size 9 Hd h w ∧ OwnL scs 1 V.heap.size 9 Gn g w ∧ Hd.length ≤ 1000000 ∧ Gn.length ≤ 1000000 * k
  ne : ∀ z, h.ownBlock = some z → g.ownBlock ≠ some z
theorem BI.start {V : World} {c : Nat} {s : CS} {w : World} (h : Prov V c s 1 [] w) (hn : s.Nm) : BI V c s.G 0 (.slice none 0 0) (.slice none 0 0) w :=
  ⟨⟨s, [], [], h, ⟨hn, (fun _ h => by cases h), (fun _ h => by cases h)⟩, rfl, World.ownsRow_nil _ _ _ _, World.ownsRow_nil _ _ _ _, by decide, by decide⟩, fun z h => by cases h⟩
/-- A store to strings' blocks leaves a provider as it was; new blocks stand beside it. -/
theorem Prov.strs {w0 : World} {b m : Nat} {s : CS} {F F' : List Nat} {w w' : World} {S : List Nat} (h : Prov w0 b s m F w) (ho : Only S w w') (hS : ∀ z ∈ S, TyAt w z 9 ∧ w0.heap.size ≤ z) (hF : ∀ z ∈ F', w.heap.size ≤ z ∧ z < w'.heap.size) : Prov w0 b s m (F' ++ F) w' := by
  obtain ⟨⟨G, gv, pv, lv, h1, h2, h3⟩, h4, h5⟩ := h
  have N : ∀ {q : Nat} {t : TypeId}, TyAt w q t → t ≠ 9 → q ∉ S := fun hq ht hm => hq.ne (hS _ hm).1 ht rfl
  refine ⟨⟨G, gv, pv, lv, h1.only ho (N (blk_ty h1.row) (by decide)) (fun g e => N (own_ty h1.go e) (by decide)) (fun g e => N (own_ty h1.po e) (by decide)) (fun g e => N (own_ty h1.lo e) (by decide)) (fun x hx g e => ?_), h2, fun z hz => ?_⟩, ho.below h4 h4.size fun z hz => (hS z hz).2, h5⟩
  · rcases e with e | e
    · exact N (own_ty (h1.ms x hx).l e) (by decide)
    · exact N (own_ty (h1.ms x hx).t e) (by decide)
  · rcases List.mem_append.1 hz with hz | hz
    · refine ⟨(hF z hz).2, fun hm => ?_⟩
      have := (h1.blocks z hm).2
      have := (hF z hz).1
      omega
    · exact ⟨Nat.lt_of_lt_of_le (h3 z hz).1 ho.size, (h3 z hz).2⟩
theorem rows_only {α : Type} {enc : α → List Value} {K : Nat} {S : List Nat} {w w' : World} {a : Option Addr} {l : List α} (h : RowsAt enc K w a l) (ho : Only S w w') (hS : ∀ b o, a = some ⟨b, o, none⟩ → b ∉ S) : RowsAt enc K w' a l := fun h0 => by
  obtain ⟨b, off, e, hlt, hc⟩ := h h0
  refine ⟨b, off, e, Nat.lt_of_lt_of_le hlt ho.size, fun i x hx r hr => ?_⟩
  rw [World.cell?_of_block (a := ⟨b, _, none⟩) (ho.block b hlt (hS b off e))]
  exact hc i x hx r hr
theorem filt_next {l : List ByteArray} {P : ByteArray → Bool} {k : Nat} {x : ByteArray} (hx : l[k]? = some x) : (l.take (k + 1)).filter P = (l.take k).filter P ++ if P x then [x] else [] := by
  rw [take_at hx, List.filter_append, List.filter_cons, List.filter_nil]
theorem filt_short (l : List ByteArray) (P : ByteArray → Bool) (k : Nat) : ((l.take k).filter P).length ≤ k := Nat.le_trans (List.length_filter_le _ _) (by rw [List.length_take]; omega)

set_option maxRecDepth 100000 in
set_option maxHeartbeats 16000000 in
theorem walk (a b : Option Addr) (ka kb : Nat) (l : List Gp) (xs : List Opn) (q : Int) (hq0 : 0 ≤ q) (hq1 : q ≤ 255) (w : World) (hT : Tab10 w) (hF : GpL w a l) (hm : l.length ≤ maxLen) (hI : ∀ g ∈ l, MacIn w g.like) (hO : OpL w b xs) (hx : xs.length ≤ maxLen) (hxI : ∀ x ∈ xs, OpIn w x) :
    Calls Tryd.prog 3 #[.slice a l.length ka, .int .u8 q, .slice b xs.length kb] w fun e w' => e = .returned (.bool true) ∧ Below w.heap.size w w' := by
  have HK := Lib.hid (fun V (hV : Below w.heap.size w V) => known_any V (hT.mono hV))
  by_cases h : lightGs l = true ∧ rightGs l = true
  · have hok := rightGs_ok h.2
    have HM := Lib.hid (lmade_yes a l ka q hq0 hq1 w hF hm hI h.1 h.2 hT)
    have HNm := Lib.hid (CS.Nm.new (dl := 1 + q % 20) hok (by omega))
    obtain ⟨s0, hs0⟩ : ∃ s0, CS.new (l.map gkOf) (1 + q % 20) = s0 := ⟨_, rfl⟩
    have HG0 := Lib.hid (show s0.G = l.map gkOf by rw [← hs0]; rfl)
    obtain ⟨n, hn⟩ : ∃ n, xs.length = n := ⟨_, rfl⟩
    have HN := Lib.hid hn
    have HO := Lib.hid hO
    have HF := Lib.hid hF
    have HXI := Lib.hid hxI
    have HT := Lib.hid hT
    rw [hs0] at HNm
    rw [hn] at hx ⊢
    unfold maxLen at hx
    obtain ⟨n1, hn1⟩ : ∃ n1, l.length = n1 := ⟨_, rfl⟩
    have HN1 := Lib.hid hn1
    have h16 : n1 ≤ 16 := by have := hok.g16; rw [List.length_map, hn1] at this; exact this
    rw [hn1] at HM ⊢
    have Hs0 := Lib.hid hs0
    clear h hF hm hI hT hok hs0 hO hxI hn hn1
    go_enter Tryd.func3, Tryd.ntmps3
    go_wp2_with (go_at_call 6; (with_reducible refine HM.out.mono ?_); rintro e w1 ⟨c, V, rfl, hbV, hP⟩; rw [Hs0.out] at hP; have HBV := Lib.hid hbV; have HP1 := Lib.hid hP; clear hbV hP)
    have HS1 := Lib.hid (HG0.out ▸ BI.start HP1.out HNm.out)
    have HW1 := Lib.hid (HBV.out.trans (HP1.out.bl.mono HBV.out.size))
    clear HM HP1 HNm Hs0
    go_loopw [8, 9, 10, 11, 12, 13, 14, 15, 16] (fun h g i _ _ _ _ _ _ wr => ∃ k : Nat, k ≤ n ∧ k ≤ 40 ∧ i = .int .i64 k ∧ BI V c (l.map gkOf) k h g wr) (fun _ _ i _ _ _ _ _ _ _ => n - (intOf i).toNat)
    case atStart => exact ⟨0, Nat.zero_le _, Nat.zero_le _, rfl, HS1.out⟩
    case round =>
      clear HS1 HW1
      obtain ⟨k, hk, hk4, rfl, ⟨⟨s, Hd, Gn, hP, hH, hG, hoh, hog, hh1, hg1⟩, hne⟩⟩ := hrel
      have HP := Lib.hid hP
      have HH := Lib.hid hH
      have HG := Lib.hid hG
      have Hoh := Lib.hid hoh
      have Hog := Lib.hid hog
      have Hne := Lib.hid hne
      have HBw := Lib.hid (HBV.out.trans (hP.bl.mono HBV.out.size))
      obtain ⟨nh, hnh⟩ : ∃ nh, Hd.length = nh := ⟨_, rfl⟩
      obtain ⟨ng, hng⟩ : ∃ ng, Gn.length = ng := ⟨_, rfl⟩
      obtain ⟨sh, kh, hhv, -⟩ := own_rows scs_len hoh (by decide)
      obtain ⟨sg, kg, hgv, -⟩ := own_rows scs_len hog (by decide)
      rw [hnh] at hhv hh1
      rw [hng] at hgv hg1
      have HNh := Lib.hid hnh
      have HNg := Lib.hid hng
      clear hP hH hG hoh hog hne hnh hng
      subst hhv
      subst hgv
      by_cases hlt : k < n ∧ k < 40
      · obtain ⟨hl1, hl2⟩ := hlt
        obtain ⟨x, hx9⟩ := mem_at (l := xs) (k := k) (by rw [HN.out]; exact hl1)
        obtain ⟨bx, ox, hba, hbx, hcx⟩ := HO.out (by rw [HN.out]; omega)
        obtain ⟨d0, d1, d2, d3, d4⟩ := oprow_cells (w := wr) (x := x) (b := bx) (o := ox + k * 5) fun r hr => by rw [HBw.out.cell (p := ⟨bx, ox + k * 5 + r, none⟩) hbx]; exact hcx k x hx9 r hr
        have HA := Lib.hid (ask_any V c (k + 1) s _ x wr HP.out (by omega) (HT.out.mono HBV.out) (HXI.out x (List.mem_of_getElem? hx9)))
        have HSt := Lib.hid (Stp.ask HH.out.nm HP.out.ok (by omega) x.k x.nm x.gp x.n x.is)
        have Hs2G := Lib.hid ((ask_G s x.k x.nm x.gp x.n x.is).trans HG.out)
        obtain ⟨s2, hs2⟩ : ∃ s2, s.ask x.k x.nm x.gp x.n x.is = s2 := ⟨_, rfl⟩
        rw [hs2] at HA HSt Hs2G
        subst hba
        clear hx9 hcx hbx hs2
        go_wp2_with (first
          | (go_at_call 8; (with_reducible refine HA.out.mono ?_); rintro e w2 ⟨rfl, hP, hK⟩; have HP2 := Lib.hid hP; have Hoh2 := Lib.hid (hK.own Hoh.out (fun z hz => by rw [hz]; simp)); have Hog2 := Lib.hid (hK.own Hog.out (fun z hz => by rw [hz]; simp)); have HIn := Lib.hid (pv_insts V c (k + 2) s2 _ w2 hP (by omega)); clear hP hK)
          | (go_at_call 9; (with_reducible refine HIn.out.mono ?_); rintro e w3 ⟨⟨v3, rfl, hv⟩, hb3⟩; have HV3 := Lib.hid hv; have HB3 := Lib.hid hb3; clear hv hb3))
        obtain ⟨w5, h5⟩ : ∃ w5, w5 = wr := ⟨_, rfl⟩
        subst h5
        obtain ⟨sp, kp, hv3, -⟩ := own_rows irow_len HV3.out (by decide)
        obtain ⟨n3, hn3⟩ : ∃ n3, s2.L.length = n3 := ⟨_, rfl⟩
        have HN3 := Lib.hid hn3
        have hn38 : n3 ≤ 1000000 := by rw [← hn3]; exact HP2.out.l6 (by omega)
        have HL3 := Lib.hid (in_own HV3.out hv3)
        have HP3 := Lib.hid (HP2.out.below HB3.out)
        have Hog3 := Lib.hid (own_kept Hog2.out HB3.out)
        have Hoh3 := Lib.hid (own_kept Hoh2.out HB3.out)
        have HTg := Lib.hid (txt_own Hog3.out rfl)
        have HTh := Lib.hid (txt_own Hoh3.out rfl)
        have HNow := Lib.hid (fun U (hb : Below w3.heap.size w3 U) => show Calls Tryd.prog 11 #[.pointer (some ⟨c, 0, none⟩)] U (fun e w' => e = .returned (.int .i64 s2.nw) ∧ Below U.heap.size U w') from (pv_now V c (k + 2) s2 _ U (HP3.out.below hb)).mono (by rintro e w' ⟨rfl, rfl⟩; exact ⟨rfl, Below.refl _ _⟩))
        rw [hv3, hn3]
        clear hv3 hn3
        obtain ⟨i0, hi, hz0, hz1, hz2⟩ := info_parts Tryd.info9
        have Hi := Lib.hid hi
        have Hz0 := Lib.hid hz0
        have Hz1 := Lib.hid hz1
        have Hz2 := Lib.hid hz2
        clear hi hz0 hz1 hz2
        go_loopw [11, 13] (fun v i wr => ∃ j : Nat, j ≤ n3 ∧ i = .int .i64 j ∧ OwnL scs 1 w3.heap.size 9 ((s2.L.take j).map Ins.nm) v wr ∧ Below w3.heap.size w3 wr) (fun _ i _ => n3 - (intOf i).toNat)
        case atStart => exact ⟨0, Nat.zero_le _, rfl, World.ownsRow_nil _ _ _ _, Below.refl _ _⟩
        case round =>
          obtain ⟨j, hj, rfl, hown, hB⟩ := hrel
          have Hown := Lib.hid hown
          have HB := Lib.hid hB
          have hbz := hB.size
          obtain ⟨sq, kq, hqv, -⟩ := own_rows scs_len hown (by decide)
          have hql : ((s2.L.take j).map Ins.nm).length = j := by rw [List.length_map, List.length_take, HN3.out]; omega
          rw [hql] at hqv
          have HQl := Lib.hid hql
          have HTq := Lib.hid (txt_own hown hqv)
          have Hqv := Lib.hid hqv
          clear hown hB hql hqv
          by_cases hl3 : j < n3
          · obtain ⟨y, hy⟩ := mem_at (l := s2.L) (k := j) (by rw [HN3.out]; exact hl3)
            obtain ⟨bz, oz, hza, hbz2, hcz⟩ := HL3.out (by rw [HN3.out]; omega)
            obtain ⟨d0, d1, d2, d3, d4⟩ := irow_cells (w := wr) (x := y) (b := bz) (o := oz + j * 5) fun r hr => by rw [HB.out.cell (p := ⟨bz, oz + j * 5 + r, none⟩) hbz2]; exact hcz j y hy r hr
            have hym := List.mem_of_getElem? hy
            obtain ⟨_, l0, _, _, _, _, _, _, l8, _⟩ := HP2.out.ok.ib y hym
            have k1 : decide (s2.nw < y.si) = false := decide_eq_false (by omega)
            have k2 : decide (y.lf < 0) = false := decide_eq_false (by omega)
            have HA1 := Lib.hid (fun V (hb : Below wr.heap.size wr V) => show Calls Tryd.prog 10 #[.slice sq j kq, .string y.nm] V (fun e w' => e = .returned (.bool false) ∧ Below V.heap.size V w') from by
              have h9 := among_any sq _ kq j y.nm V (HTq.out.mono hb) HQl.out (by omega)
              rw [amB_no (take_fresh HSt.out.nm.nd hy)] at h9
              exact h9)
            have HA2 := Lib.hid (fun V (hb : Below wr.heap.size wr V) => show Calls Tryd.prog 10 #[.slice sg ng kg, .string y.nm] V (fun e w' => e = .returned (.bool false) ∧ Below V.heap.size V w') from by
              have h9 := among_any sg Gn kg ng y.nm V (HTg.out.mono (HB.out.trans (hb.mono hbz))) HNg.out (by omega)
              rw [amB_no (HH.out.gone HSt.out y.nm (List.mem_map.2 ⟨y, hym, rfl⟩))] at h9
              exact h9)
            have HNw := Lib.hid (fun V (hb : Below wr.heap.size wr V) => HNow.out V (HB.out.trans (hb.mono hbz)))
            have hbzw : bz < wr.heap.size := by omega
            have Hy := Lib.hid hy
            have hqv9 := Hqv.out
            subst hza
            subst hqv9
            clear hy hcz hbz2 hym l0 l8
            go_wp2
            have hcH := held_cell
            refine region_rel (by kernel_rfl) (by kernel_rfl) ?_
            repeat
              ((with_reducible refine relStep (fun K hK => ?_))
               (have HK := Lib.hid hK)
               clear hK
               (apply relInl
                · intro r n hf
                  have Hf := Lib.hid hf
                  clear hf
                  (first
                    | (fail)
                    | (unfold relAt
                       go_simp
                       (first | (refine relUpon_val ?_ (Below.refl _ _); exact rfl) | exact rfl | (refine relUpon_enter ?_; (first | (go_at_call 10; (with_reducible refine (HA1.out _ n.below).mono ?_); rintro e w9 ⟨rfl, hb⟩; exact ⟨⟨_, rfl, rfl⟩, hb⟩) | (go_at_call 10; (with_reducible refine (HA2.out _ n.below).mono ?_); rintro e w9 ⟨rfl, hb⟩; exact ⟨⟨_, rfl, rfl⟩, hb⟩) | (go_at_call 11; (with_reducible refine (HNw.out _ n.below).mono ?_); rintro e w9 ⟨rfl, hb⟩; exact ⟨⟨_, rfl, rfl⟩, hb⟩))))))
                (simp only [Act.put, List.setIfInBounds_toArray, List.set_cons_zero, List.set_cons_succ])
                (with_reducible refine HK.out _ _ ?_)
                clear HK K))
            refine relNil ?_
            intro r6 n6 hx6
            clear hcH
            (try simp only [List.nil_append, List.cons_append, List.mem_cons, List.not_mem_nil, or_false, forall_eq_or_imp, forall_eq, false_implies, implies_true] at hx6)
            obtain ⟨w6, hb6⟩ := n6
            (try dsimp only)
            obtain ⟨hc6, hf6⟩ := bcell hb6
            have hz6 := hb6.size
            (try simp at hz6)
            have HB6 := Lib.hid hb6
            have HO6 := Lib.hid (own_kept Hown.out hb6)
            have HBx := Lib.hid (HB.out.trans (hb6.mono hbz))
            have Hbx := Lib.hid (Nat.le_trans hbz hb6.size)
            have hc3 : j + 1 ≤ maxLen := by unfold maxLen; omega
            have hc4 : (j + 1) * 16 ≤ 140737488355328 := by omega
            have Hrow := Lib.hid (show ((s2.L.take j).map Ins.nm).flatMap scs ++ [.string y.nm] = ((s2.L.take (j + 1)).map Ins.nm).flatMap scs from by rw [take_names Hy.out, List.flatMap_append]; rfl)
            have Hlen := Lib.hid (show j + 1 = ((s2.L.take (j + 1)).map Ins.nm).length from by rw [take_names Hy.out, List.length_append, HQl.out]; rfl)
            have HO7 := Lib.hid (show w6.ownsRow w3.heap.size 9 1 (.slice sq j kq) j (((s2.L.take j).map Ins.nm).flatMap scs) from by have h9 := HO6.out; unfold OwnL at h9; rw [HQl.out] at h9; exact h9)
            have e0 : w6.cell? ⟨bz, oz + j * 5, none⟩ = _ := (hc6 bz (oz + j * 5) hbzw).trans d0
            clear hb6 hc6 hf6 hz6 HO6 d0 d1 d2 d3 d4
            go_wp2_with (at_builtin; refine wpList_append_own _ rfl (.tmp 81) (.tmp 87) 27 rfl w3.heap.size 9 i0 _ 1 16 Tryd.underlying27 Hi.out Hz0.out Hz1.out Hz2.out rfl (by decide) _ j _ rfl (HO7.out.alloc _) ⟨w6.heap.size, 0, none⟩ 1 1 [.string y.nm] rfl rfl (news_at _ _ _) (scs_one y.nm) hc3 hc4 (le_alloc Hbx.out _) ?_; intro v1 w7 hown1 hgrow1 _; have hB1 := own_below (HO7.out.alloc _) (HBx.out.alloc Hbx.out _) (le_alloc Hbx.out _) hgrow1; have HO1 := Lib.hid (show OwnL scs 1 w3.heap.size 9 ((s2.L.take (j + 1)).map Ins.nm) v1 w7 from (by have h9 := hown1; rw [Hrow.out] at h9; unfold OwnL; rw [← Hlen.out]; exact h9)); have HB7 := Lib.hid hB1; clear hown1 hgrow1 hB1)
            go_roundw
            case rel => exact ⟨j + 1, by omega, by go_num, HO1.out, HB7.out⟩
            case measure => simp [intOf]; omega
          · obtain rfl : j = n3 := by omega
            have hall : (s2.L.take j).map Ins.nm = s2.L.map Ins.nm := by rw [List.take_of_length_le (Nat.le_of_eq HN3.out)]
            have HAll := Lib.hid hall
            have hqv9 := Hqv.out
            subst hqv9
            clear hall
            obtain ⟨w9, h9⟩ : ∃ w9, w9 = wr := ⟨_, rfl⟩
            subst h9
            have HTn := Lib.hid (show TxtL w9 sq (s2.L.map Ins.nm) from HAll.out ▸ HTq.out)
            have HNl := Lib.hid (show (s2.L.map Ins.nm).length = j from HAll.out ▸ HQl.out)
            have HOn := Lib.hid (show OwnL scs 1 w3.heap.size 9 (s2.L.map Ins.nm) (.slice sq j kq) w9 from HAll.out ▸ Hown.out)
            obtain ⟨NL, hNL⟩ : ∃ NL, s2.L.map Ins.nm = NL := ⟨_, rfl⟩
            rw [hNL] at HTn HNl HOn
            have HNL := Lib.hid hNL
            have HTh9 := Lib.hid (HTh.out.mono HB.out)
            have Hog9 := Lib.hid (own_kept Hog3.out HB.out)
            have HP9 := Lib.hid ((HP3.out.add (F' := (Value.slice sq j kq).ownBlock.toList) HB.out (fun z hz => own_lt HOn.out (by simpa using hz))))
            obtain ⟨S, hS⟩ : ∃ S, S = (Value.slice sg ng kg).ownBlock.toList := ⟨_, rfl⟩
            have HSe := Lib.hid hS
            have HSz := Lib.hid (show ∀ z ∈ S, z < w3.heap.size ∧ V.heap.size ≤ z ∧ TyAt w9 z 9 from fun z hz => by
              rw [hS] at hz
              have hz' : (Value.slice sg ng kg).ownBlock = some z := by simpa using hz
              exact ⟨(own_lt Hog3.out hz').2, (own_lt Hog3.out hz').1, own_ty Hog9.out hz'⟩)
            have HSn := Lib.hid (show ∀ b o, sq = some ⟨b, o, none⟩ → b ∉ S from fun b o e hm => by
              have h1 := (HSz.out b hm).1
              have h2 := (own_lt HOn.out (g := b) (by rw [e]; rfl)).1
              omega)
            have HSh := Lib.hid (show ∀ b o, sh = some ⟨b, o, none⟩ → b ∉ S from fun b o e hm => by
              rw [hS] at hm
              exact Hne.out b (by rw [e]; rfl) (by simpa using hm))
            have HSg := Lib.hid (show ∀ z, (Value.slice sg ng kg).ownBlock = some z → z ∈ S from fun z hz => by rw [hS, hz]; simp)
            have HNh9 := HNh.out
            have hng8 : Gn.length ≤ 40000000 := by rw [HNg.out]; omega
            have HVB := Lib.hid (show V.heap.size ≤ w9.heap.size from Nat.le_trans HP3.out.bl.size hbz)
            obtain ⟨P, hPf⟩ : ∃ P : ByteArray → Bool, P = fun t => !amB NL t := ⟨_, rfl⟩
            have HPf := Lib.hid hPf
            clear hNL hS hPf HNh9
            go_wp2
            go_loopw [9, 14] (fun v i wr => ∃ m : Nat, m ≤ nh ∧ i = .int .i64 m ∧ OwnL scs 1 V.heap.size 9 (Gn ++ (Hd.take m).filter P) v wr ∧ Only S w9 wr ∧ ∀ z, v.ownBlock = some z → z ∈ S ∨ w9.heap.size ≤ z) (fun _ i _ => nh - (intOf i).toNat)
            case atStart => exact ⟨0, Nat.zero_le _, rfl, by rw [List.take_zero, List.filter_nil, List.append_nil]; exact Hog9.out, Only.refl _ _, fun z hz => .inl (HSg.out z hz)⟩
            case round =>
              obtain ⟨m, hm4, rfl, hown, hOn, hVv⟩ := hrel
              have Hown3 := Lib.hid hown
              have HOn3 := Lib.hid hOn
              have HVv := Lib.hid hVv
              obtain ⟨st, kt, htv, -⟩ := own_rows scs_len hown (by decide)
              obtain ⟨q3, hq3⟩ : ∃ q3, (Gn ++ (Hd.take m).filter P).length = q3 := ⟨_, rfl⟩
              have hq38 : q3 ≤ 50000000 := by
                have h1 := filt_short Hd P m
                rw [List.length_append] at hq3
                omega
              rw [hq3] at htv
              have Hq3 := Lib.hid hq3
              clear hown hOn hVv hq3
              subst htv
              by_cases hl4 : m < nh
              · obtain ⟨t, ht⟩ := mem_at (l := Hd) (k := m) (by rw [HNh.out]; exact hl4)
                have Htw := Lib.hid (rows_only HTh9.out HOn3.out HSh.out)
                obtain ⟨bh, oh, hsa, hbh, hch⟩ := Htw.out (by rw [HNh.out]; omega)
                have d0 := hch m t ht 0 (by decide)
                simp only [scs, List.getElem?_cons_zero, Nat.mul_one, Nat.add_zero] at d0
                have HAm := Lib.hid (among_any sq NL kq j t wr (rows_only HTn.out HOn3.out HSn.out) HNl.out (by omega))
                have Hft := Lib.hid (filt_next (P := P) ht)
                have hsh9 := hsa
                subst hsh9
                clear hsa hch ht
                cases hPt : amB NL t
                · rw [hPt] at HAm
                  have Hft2 := Lib.hid (show Gn ++ (Hd.take (m + 1)).filter P = (Gn ++ (Hd.take m).filter P) ++ [t] from by rw [Hft.out, HPf.out]; simp [hPt])
                  have hc3 : q3 + 1 ≤ maxLen := by unfold maxLen; omega
                  have hc4 : (q3 + 1) * 16 ≤ 140737488355328 := by omega
                  have HO3 := Lib.hid (show wr.ownsRow V.heap.size 9 1 (.slice st q3 kt) q3 ((Gn ++ (Hd.take m).filter P).flatMap scs) from by have h9 := Hown3.out; unfold OwnL at h9; rw [Hq3.out] at h9; exact h9)
                  have HVw := Lib.hid (Nat.le_trans HVB.out HOn3.out.size)
                  have hbhw := hbh
                  clear hPt
                  go_wp2_with (first
                    | (go_at_call 10; (with_reducible refine HAm.out.mono ?_); rintro e w10 ⟨rfl, hb10⟩; have HB10 := Lib.hid hb10; have HO10 := Lib.hid (own_kept HO3.out hb10); have e0 : w10.cell? ⟨bh, oh + m, none⟩ = _ := ((bcell hb10).1 bh (oh + m) hbhw).trans d0; have HV10 := Lib.hid (Nat.le_trans HVw.out hb10.size); clear hb10 d0)
                    | (at_builtin; refine wpList_append_lies _ rfl (.tmp 102) (.tmp 107) 27 rfl V.heap.size 9 i0 _ 1 16 Tryd.underlying27 Hi.out Hz0.out Hz1.out Hz2.out rfl (by decide) _ q3 _ rfl (HO10.out.alloc _) ⟨w10.heap.size, 0, none⟩ 1 1 [.string t] rfl rfl (news_at _ _ _) (scs_one t) (by decide) hc3 hc4 (le_alloc HV10.out _) (w10.heap.size + 1) (by simp) ?_; intro g1 cap1 w11 hown1 hgrow1 hat1 hlt1; have HO1 := Lib.hid (show OwnL scs 1 V.heap.size 9 (Gn ++ (Hd.take (m + 1)).filter P) (.slice (some ⟨g1, 0, none⟩) (q3 + 1) cap1) w11 from (by rw [Hft2.out]; unfold OwnL; rw [List.length_append, Hq3.out, List.flatMap_append]; exact hown1)); have HOn1 := Lib.hid (show Only S w9 w11 from (((HOn3.out.step (HB10.out.mono HOn3.out.size)).alloc _).grown hgrow1 (fun z hz => HVv.out z hz))); have HVv1 := Lib.hid (show ∀ z, (Value.slice (some ⟨g1, 0, none⟩) (q3 + 1) cap1).ownBlock = some z → z ∈ S ∨ w9.heap.size ≤ z from (fun z hz => by
                        obtain rfl : g1 = z := Option.some.inj hz
                        rcases hat1 with h1 | h1
                        · exact HVv.out _ h1
                        · exact .inr (by have := HOn3.out.size; have := HB10.out.size; omega))); clear hown1 hgrow1 hat1 hlt1))
                  go_roundw
                  case rel => exact ⟨m + 1, by omega, by go_num, HO1.out, HOn1.out, HVv1.out⟩
                  case measure => simp [intOf]; omega
                · rw [hPt] at HAm
                  have Hft2 := Lib.hid (show Gn ++ (Hd.take (m + 1)).filter P = Gn ++ (Hd.take m).filter P from by rw [Hft.out, HPf.out]; simp [hPt])
                  clear hPt
                  go_wp2_with (go_at_call 10; (with_reducible refine HAm.out.mono ?_); rintro e w10 ⟨rfl, hb10⟩; have HB10 := Lib.hid hb10; clear hb10)
                  go_roundw
                  case rel => exact ⟨m + 1, by omega, by go_num, by rw [Hft2.out]; exact own_kept Hown3.out HB10.out, HOn3.out.step (HB10.out.mono HOn3.out.size), HVv.out⟩
                  case measure => simp [intOf]; omega
              · obtain rfl : m = nh := by omega
                obtain ⟨w12, h12⟩ : ∃ w12, w12 = wr := ⟨_, rfl⟩
                subst h12
                have HP12 := Lib.hid (Prov.strs HP9.out (F' := (Value.slice st q3 kt).ownBlock.toList.filter fun z => decide (w9.heap.size ≤ z)) HOn3.out (fun z hz => ⟨(HSz.out z hz).2.2, (HSz.out z hz).2.1⟩) (fun z hz => by
                  rw [List.mem_filter] at hz
                  exact ⟨of_decide_eq_true hz.2, (own_lt Hown3.out (by simpa using hz.1)).2⟩))
                have HB12 := Lib.hid (HBV.out.trans (HP12.out.bl.mono HBV.out.size))
                have hF12 := HF.out.mono HB12.out
                have HF12 := Lib.hid hF12
                have HOn12 := Lib.hid (show OwnL scs 1 V.heap.size 9 NL (.slice sq j kq) w12 from OwnL.mono (own_same HOn.out fun g hg => HOn3.out.block g (own_lt HOn.out hg).2 fun hm => by
                  have h1 := (HSz.out g hm).1
                  have h2 := (own_lt HOn.out hg).1
                  omega) HP3.out.bl.size)
                clear hF12
                go_wp2
                go_loopw [15, 16] (fun i _ wr => ∃ u : Nat, u ≤ n1 ∧ i = .int .i64 u ∧ Below w12.heap.size w12 wr) (fun i _ _ => n1 - (intOf i).toNat)
                case atStart => exact ⟨0, Nat.zero_le _, rfl, Below.refl _ _⟩
                case round =>
                  obtain ⟨u, hu, rfl, hBu⟩ := hrel
                  have HBu := Lib.hid hBu
                  clear hBu
                  by_cases hl5 : u < n1
                  · obtain ⟨g, hg⟩ := mem_at (l := l) (k := u) (by rw [HN1.out]; exact hl5)
                    have hFu := HF12.out.mono HBu.out
                    obtain ⟨bg, og, hga, hbg, hcg⟩ := hFu (by rw [HN1.out]; omega)
                    obtain ⟨c0, c1, c2, c3, c4, c5, c6, c7, c8, c9, c10, c11, c12, c13, c14⟩ := grow_cells (hcg u g hg)
                    have hGk : s2.G[u]? = some (gkOf g) := by rw [Hs2G.out, List.getElem?_map, hg]; rfl
                    have htb := HP12.out.ok.tgt_bd hGk
                    have htb1 : g.mn ≤ s2.tgt g.nm := htb.1
                    have htb2 : s2.tgt g.nm ≤ g.mx := htb.2
                    have HTt := Lib.hid (pv_tgt V c (k + 2) s2 _ wr (HP12.out.below HBu.out) g.nm)
                    obtain ⟨tt, htt⟩ : ∃ tt, s2.tgt g.nm = tt := ⟨_, rfl⟩
                    rw [htt] at htb1 htb2 HTt
                    have k1 : decide (tt < g.mn) = false := decide_eq_false (by omega)
                    have k2 : decide (g.mx < tt) = false := decide_eq_false (by omega)
                    subst hga
                    clear hg hFu hcg hGk htb htt htb1 htb2 c3 c4 c5 c6 c7 c8 c9 c10 c11 c12 c13 c14
                    have hul : (u : Int) < (n1 : Int) := by omega
                    have hu0 : (0 : Int) ≤ (u : Int) := by omega
                    go_wp2_with (go_at_call 12; (with_reducible refine HTt.out.mono ?_); rintro e w13 ⟨rfl, hb13⟩; obtain ⟨hc13, hf13⟩ := bcell hb13; have HB13 := Lib.hid hb13; clear hb13)
                    go_roundw
                    case rel => exact ⟨u + 1, by omega, by go_num, HBu.out.trans (HB13.out.mono HBu.out.size)⟩
                    case measure => simp [intOf]; omega
                  · obtain rfl : u = n1 := by omega
                    have HBI := Lib.hid (show BI V c (l.map gkOf) (k + 1) (.slice sq j kq) (.slice st q3 kt) wr from by
                      have hall : Hd.take m = Hd := List.take_of_length_le (Nat.le_of_eq HNh.out)
                      have hH2 := HH.out.next HSt.out
                      have e1 : Gn ++ (Hd.take m).filter P = Gn ++ Hd.filter fun t => !amB (s2.L.map Ins.nm) t := by rw [hall, HPf.out, HNL.out]
                      refine ⟨⟨s2, s2.L.map Ins.nm, Gn ++ Hd.filter fun t => !amB (s2.L.map Ins.nm) t, ?_, hH2, Hs2G.out, ?_, ?_, ?_, ?_⟩, fun z h1 h2 => ?_⟩
                      · refine (HP12.out.below HBu.out).sub fun z hz => ?_
                        rcases List.mem_append.1 hz with hz | hz
                        · exact List.mem_append.2 (.inr (List.mem_append.2 (.inl hz)))
                        · rcases HVv.out z (by simpa using hz) with h1 | h1
                          · have h2 : z ∈ (Value.slice sg ng kg).ownBlock.toList := HSe.out ▸ h1
                            exact List.mem_append.2 (.inr (List.mem_append.2 (.inr (List.mem_append.2 (.inr h2)))))
                          · exact List.mem_append.2 (.inl (List.mem_filter.2 ⟨hz, decide_eq_true h1⟩))
                      · rw [HNL.out]
                        exact own_kept HOn12.out HBu.out
                      · rw [← e1]
                        exact own_kept Hown3.out HBu.out
                      · rw [List.length_map, HN3.out]; exact hn38
                      · have h1 := filt_short Hd P m
                        have h2 := HNg.out
                        have h3 := HNh.out
                        rw [← e1, List.length_append]
                        omega
                      · have h3 := (own_lt HOn.out h1).1
                        have h4 := (own_lt HOn.out h1).2
                        rcases HVv.out z h2 with h5 | h5
                        · have := (HSz.out z h5).1
                          omega
                        · omega)
                    go_wp2
                    go_roundw
                    case rel => exact ⟨k + 1, by omega, by omega, by go_num, HBI.out⟩
                    case measure => simp [intOf]; omega
      · have hor : (k < n ∧ ¬ k < 40) ∨ ¬ k < n := by omega
        clear hlt
        rcases hor with ⟨hl1, hl2⟩ | hl1
        all_goals
          go_wp2_with (go_at_call 7; (with_reducible refine (HK.out _ HBw.out).mono ?_); rintro e w2 ⟨rfl, hb2⟩; have HB2 := Lib.hid (HBw.out.trans (hb2.mono HBw.out.size)); clear hb2)
          go_ret
          exact ⟨rfl, HB2.out⟩
  · have HM := Lib.hid (lmade_no a l ka q w hF hm hI h)
    obtain ⟨n1, hn1⟩ : ∃ n1, l.length = n1 := ⟨_, rfl⟩
    obtain ⟨n, hn⟩ : ∃ n, xs.length = n := ⟨_, rfl⟩
    rw [hn1] at HM ⊢
    rw [hn]
    clear hT hF hm hI hO hx hxI h hn1 hn
    go_enter Tryd.func3, Tryd.ntmps3
    go_wp2_with (first
      | (go_at_call 6; (with_reducible refine HM.out.mono ?_); rintro e w1 ⟨rfl, hb1⟩; have HB1 := Lib.hid hb1; clear hb1)
      | (go_at_call 7; (with_reducible refine (HK.out _ HB1.out).mono ?_); rintro e w2 ⟨rfl, hb2⟩; have HB2 := Lib.hid (HB1.out.trans (hb2.mono HB1.out.size)); clear hb2))
    go_ret
    exact ⟨rfl, HB2.out⟩

set_option maxRecDepth 100000 in
theorem lifted (os : Os) (started : os.Started) (H : Type) (enc : TypeId × Value → H) :
    ReturnsInHanded {} Tryd.checked os 3 .any (fun w args => (Rows.cloudBoundsSpec.pre enc Tryd.prog Tryd.f3 Rows.cloudBoundsRow.domain false w args ∧ laidMetH Tryd.prog Rows.cloudBoundsRow.laid w) ∧ sizedMet enc Tryd.prog Tryd.f3 (OpenSpec.ofChange Rows.cloudBoundsSpec) false w args)
      (Rows.cloudBoundsSpec.post enc Tryd.prog Tryd.f3 false true false false) := by
  refine returnsInHanded_of_change_and (C := Tryd.checked) (X := fun w _ => laidMetH Tryd.prog Rows.cloudBoundsRow.laid w) (fun _ _ _ hh h => h.of_heap hh) Tryd.own started (by kernel_rfl) Tryd.func3
    (ChangeSpec.witness_at (enc := enc) (C := Tryd.checked) (os := os) (X := fun w _ => laidMetH Tryd.prog Rows.cloudBoundsRow.laid w) false (laidWorld os) #[.slice none 0 0, .int .u8 0, .slice none 0 0] 8 rfl (by kernel_rfl) (by kernel_rfl) (by kernel_rfl) (by kernel_rfl) (by kernel_rfl) (laidWorld_met os _)) ?_
  intro W base args ds gs before hval hW _ _ hL _
  have hW' := hW
  obtain ⟨p, q, hA, hV, rfl, hfz, hnd⟩ := hW
  rw [Tryd.params3] at hA hval
  obtain ⟨v0, v1, v2, d0, d1, d2, p0, p1, p2, rfl, rfl, rfl, h0, h1, h2⟩ := trodAll_three hA
  obtain ⟨a, l, ka, rfl, _, hF, hl, _, hI⟩ := open_grps (hval 0 22 v0 rfl rfl) h0
  obtain ⟨q, rfl, _, _, wn⟩ := open_int Tryd.underlying5 (hval 1 5 v1 rfl rfl) h1
  obtain ⟨b, xs, kb, rfl, _, hO, hx, _, hxI⟩ := open_ops (hval 2 23 v2 rfl rfl) h2
  have hq : 0 ≤ q ∧ q ≤ 255 := by simpa [Lit.wf, IntKind.min, IntKind.max, IntKind.signed, IntKind.bits] using wn
  refine (walk a b ka kb l xs q hq.1 hq.2 W (tab_of hL) hF hl hI hO hx hxI).mono fun e W' ⟨he, hb⟩ => ?_
  exact ⟨_, he, law_post Tryd.laidOut hW' rfl (by kernel_rfl) (by kernel_rfl) Tryd.underlying4 rfl rfl rfl hb⟩

theorem over : Rows.CloudBoundsSaid :=
  OpenClaim.holds_of_wide 3 Tryd.f3 rfl rfl rfl rfl rfl rfl rfl ⟨rfl, rfl, rfl, rfl, rfl⟩ rfl rfl rfl rfl rfl (by kernel_rfl) Tryd.func3 (by kernel_rfl)
    (of_decide_eq_true (by kernel_rfl)) (by unfold Func.isWrapper; first | (rw [if_pos (by decide +kernel)]; kernel_rfl) | (rw [if_neg (by decide +kernel)]; exact ⟨rfl, rfl⟩))
    (fun os started H enc _ => lifted os started H enc)

/-- The statement: the card. -/
theorem proved : Rows.CloudBoundsCardSaid :=
  Claim7.holds_tied_plain_at .later [] [.data, .data, .data] true Rows.cloudBoundsCard.stood.harness Rows.cloudBoundsCard.stood.looks
    over (fun _ h => by cases h) (by kernel_rfl) (fun _ h => by cases h) cloudBounds_row_tie rfl ⟨rfl, rfl⟩ (by kernel_rfl) rfl
    (fun f fn hf hfn => by
      obtain rfl : f = 3 := Option.some.inj ((show Tryd.prog.funcNamed Rows.cloudBoundsRow.func = some 3 by kernel_rfl).symm.trans hf) |>.symm
      obtain rfl : fn = Tryd.f3 := (Option.some.inj (Tryd.func3.symm.trans hfn)).symm
      exact ⟨by kernel_rfl, fun j t ht => by
        rw [Tryd.params3] at ht
        rcases j with _ | _ | _ | j
        · obtain rfl : t = 22 := by simpa using ht.symm
          exact (show Tryd.prog.wantsStandIn 22 = false by kernel_rfl)
        · obtain rfl : t = 5 := by simpa using ht.symm
          exact (show Tryd.prog.wantsStandIn 5 = false by kernel_rfl)
        · obtain rfl : t = 23 := by simpa using ht.symm
          exact (show Tryd.prog.wantsStandIn 23 = false by kernel_rfl)
        · simp at ht⟩)
    (by kernel_rfl)
end cloudBounds
end Go.Proofs.YtcfdejlbchdciaaDoor
