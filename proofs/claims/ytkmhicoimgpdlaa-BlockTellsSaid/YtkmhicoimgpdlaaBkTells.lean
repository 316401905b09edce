/-
  BlockTells: how much any machine is used, which of its pods would have to move, what keeps it from being emptied, and which are hardly, or not, used, is as the document says.
-/
import Derived.Test.YtkmhicoimgpdlaaBt2
import Derived.Test.YtkmhicoimgpdlaaBt3
import Derived.Test.YtkmhicoimgpdlaaShS
namespace Go.Proofs.Ytkmhicoimgpdlaa
open Go.ChangeShapes Go.WideShapes Go.ChangeAt Go.RowKit
set_option linter.unusedVariables false
set_option linter.unusedSimpArgs false
namespace blockTells

theorem cells_bgl : Try.prog.cellsOf 38 = 1 := by kernel_rfl
theorem cells_ask : Try.prog.cellsOf 55 = 2 := by kernel_rfl
set_option maxRecDepth 100000 in
theorem ask_open {H : Type} {enc : TypeId × Value → H} {W : World} {fuel : Nat} {cs : List Value} {y : DataW H × List MemPlace} (hl : cs.length = 2)
    (h : DataW.trod enc Try.prog W 0 (fun _ => true) true fuel 55 cs = some y) :
    ∃ (d : Option Addr) (l : List Bg) (k : Nat) (most : Int), cs = [.slice d l.length k, .int .i64 most] ∧ BgL W d l ∧ l.length ≤ maxLen ∧ ∀ x ∈ l, BgIn W x := by
  obtain ⟨zs, _, _, _, _, hlen3, hk⟩ := DataW.trod_struct Try.underlying55 h
  match cs, hl with
  | [c0, c1], _ =>
    match zs, hlen3 with
    | [z0, z1], _ =>
      have k0 := hk 0 _ rfl
      have k1 := hk 1 _ rfl
      obtain ⟨i1, r1, _⟩ := DataW.trod_int Try.underlying3 k1
      obtain ⟨a1, l1, k1', r0⟩ := Go.Joins.slice_form Try.underlying38 k0
      rw [r0] at k0
      obtain ⟨L, g1, g2, g3, g4⟩ := open_nested_in (K := 3) (enc := bgrow) (In := BgIn) Try.underlying38 Try.cells53 (by decide) (fun cs fuel y hl h => bg_open hl h) k0
      simp [cells_int, cells_bgl] at r0 r1
      subst g1
      exact ⟨a1, L, k1', i1, by rw [r0, r1], g2, g3, g4⟩
set_option maxRecDepth 100000 in
theorem open_ask {H : Type} {enc : TypeId × Value → H} {W : World} {base : Nat} {v : Value} {d : DataW H} {q : List MemPlace}
    (hv : Value.okWide Try.prog W .any base 55 v) (h : DataW.Trod enc Try.prog W 0 (fun _ => true) true 55 v d q) :
    ∃ (d : Option Addr) (l : List Bg) (k : Nat) (most : Int), v = .agg #[.slice d l.length k, .int .i64 most] ∧ BgL W d l ∧ l.length ≤ maxLen ∧ ∀ x ∈ l, BgIn W x := by
  obtain ⟨cs, rfl, hsz⟩ := okWide_struct Try.underlying55 hv
  rw [cells_ask] at hsz
  obtain ⟨fuel, hf⟩ := h
  obtain ⟨l⟩ := cs
  obtain ⟨d, L, k, most, e, h1, h2, h3⟩ := ask_open (cs := l) hsz hf
  exact ⟨d, L, k, most, by rw [e], h1, h2, h3⟩
theorem movL_mem {bs : List Bd} {nm : ByteArray} {p : Pd} (h : p ∈ movL bs nm) : ∃ x ∈ bs, x.p = p := by
  unfold movL at h
  split at h
  · cases h
  · have h1 := (List.mem_filter.1 h).1
    unfold onL at h1
    obtain ⟨x, hx, e⟩ := List.mem_map.1 h1
    exact ⟨x, (List.mem_filter.1 hx).1, e⟩
theorem btexts_same (a b : Option Addr) (ka kb : Nat) (L : List ByteArray) (w : World) (hF : TxtL w a L) (hG : TxtL w b L) (hL : L.length ≤ 1000000) :
    Calls Try.prog 20 #[.slice a L.length ka, .slice b L.length kb] w fun e w' => e = .returned (.bool true) ∧ Below w.heap.size w w' := by
  have h := texts_any a b ka kb L L w hF hG hL hL
  rwa [decide_eq_true rfl] at h
/-- What a right case gives. -/
structure Ok (ms : List Mac) (bs : List Bd) (l : List Bg) : Prop where
  bo : BO bs
  rt : ∀ b ∈ bs, rtP b.p = true
  lp : ∀ b ∈ bs, lightP b.p = true
  nn : ∀ m ∈ ms, ¬ m.nm = emp
  ml : ms.length ≤ 20
  bl : bs.length ≤ 40
theorem ok_of {ms : List Mac} {bs : List Bd} {l : List Bg} (hr : RightB ms bs l) : Ok ms bs l := by
  have hly := lightY_iff hr.ly
  have hck := check_pods hr.ck
  have hso : ∀ x ∈ bs, Lb.Sorted x.p.labs ∧ rtP x.p = true := fun x hx => by
    have h := hck.1 x hx
    unfold rightP at h
    simp only [Bool.and_eq_true, decide_eq_true_eq] at h
    exact ⟨Lb.sorted_of h.1.1.1.1.1.1.1.1.1.2, h.1.1.1.1.1.1.1.1.1.1.1.2⟩
  refine ⟨⟨hck.2, fun x hx => (hso x hx).1, by have := hly.2.1; omega, fun x hx => by have := (lightL_iff _).1 (lightP_iff (hly.2.2.2 x hx).1).l0; omega⟩, fun x hx => (hso x hx).2, fun x hx => (hly.2.2.2 x hx).1, fun m hm => ?_, hly.1, hly.2.1⟩
  have h9 := List.all_eq_true.1 (check_zero hr.ck).2.1 m hm
  unfold okM at h9
  simp only [Bool.and_eq_true, Bool.not_eq_true', decide_eq_false_iff_not] at h9
  exact h9.1
theorem bound_below {w W V : World} (hb : Below w.heap.size w W) (h : Below W.heap.size W V) : Below w.heap.size w V := hb.trans (h.mono hb.size)
set_option maxRecDepth 100000 in
set_option maxHeartbeats 16000000 in
theorem walk1 (a : Option Addr) (ka : Nat) (ms : List Mac) (c : Option Addr) (kc : Nat) (bs : List Bd) (d : Option Addr) (kd : Nat) (l : List Bg) (most : Int) (w : World) (hF : MacL w a ms) (hG : BndL w c bs) (hD : BgL w d l) (hA : ∀ m ∈ ms, MacIn w m) (hB : ∀ b ∈ bs, BndIn w b) (hI : ∀ b ∈ l, BgIn w b) (hl : ms.length ≤ maxLen) (hl2 : bs.length ≤ maxLen) :
    Calls Try.prog 6 #[.slice a ms.length ka, .slice c bs.length kc, .agg #[.slice d l.length kd, .int .i64 most]] w fun e w' => e = .returned (.bool true) ∧ Below w.heap.size w w' := by
  have HRt := Lib.hid (fun V (hV : Below w.heap.size w V) => bright_any a c d ka kc kd ms bs l V (hF.mono hV) (hG.mono hV) (hD.mono hV) (fun m hm => (hA m hm).mono hV) (fun b hb => (hB b hb).mono hV) (fun b hb => (hI b hb).mono hV) hl hl2)
  have HAll := Lib.hid (fun (hr : RightB ms bs l) =>
    have hba := ba_of hD hI hr.lg hr.rg
    have ok := ok_of hr
    have hbI : ∀ x ∈ bs, PodAt w x.p := fun x hx => (hB x hx).here
    show (∀ nm V, Below w.heap.size w V → Calls Try.prog 12 #[.slice c bs.length kc, .slice d l.length kd, .string nm] V fun e w' => e = .returned (.tuple #[.string (whyB l bs nm).1, .int .i64 (whyB l bs nm).2]) ∧ Below V.heap.size V w')
      ∧ (∀ nm V, ¬ nm = emp → Below w.heap.size w V → Calls Try.prog 16 #[.slice c bs.length kc, .slice d l.length kd, .string nm] V fun e w' => e = .returned (.tuple #[.string (whyB l bs nm).1, .int .i64 (whyB l bs nm).2]) ∧ Below V.heap.size V w')
      ∧ (∀ nm V, Below w.heap.size w V → Calls Try.prog 13 #[.slice c bs.length kc, .string nm] V fun e w' => (∃ c k, e = .returned (.slice c (movL bs nm).length k) ∧ RowsAt prow 20 w' c (movL bs nm)) ∧ Below V.heap.size V w')
      ∧ (∀ nm V, ¬ nm = emp → Below w.heap.size w V → Calls Try.prog 17 #[.slice c bs.length kc, .string nm] V fun e w' => (∃ c k, e = .returned (.slice c (movL bs nm).length k) ∧ RowsAt prow 20 w' c (movL bs nm)) ∧ Below V.heap.size V w')
      ∧ (∀ m V, Below w.heap.size w V → Calls Try.prog 11 #[.agg #[.string (m).nm, .string (m).gp, .int .i64 (m).r0, .int .i64 (m).r1, .int .i64 (m).r2, .int .i64 (m).r3, .int .i64 (m).r4, .slice (m).la (m).labs.length (m).lk, .slice (m).ta (m).tnts.length (m).tk, .bool (m).rd], .slice c bs.length kc] V fun e w' => e = .returned (.int .i64 (useB m bs)) ∧ Below V.heap.size V w')
      ∧ (∀ m V, Below w.heap.size w V → Calls Try.prog 18 #[.agg #[.string (m).nm, .string (m).gp, .int .i64 (m).r0, .int .i64 (m).r1, .int .i64 (m).r2, .int .i64 (m).r3, .int .i64 (m).r4, .slice (m).la (m).labs.length (m).lk, .slice (m).ta (m).tnts.length (m).tk, .bool (m).rd], .slice c bs.length kc] V fun e w' => e = .returned (.int .i64 (useB m bs)) ∧ Below V.heap.size V w')
      ∧ (∀ V, Below w.heap.size w V → Calls Try.prog 9 #[.slice a ms.length ka, .slice c bs.length kc, .int .i64 most] V fun e w' => (∃ v, e = .returned v ∧ IsL scs 1 (idleL ms bs most) v w') ∧ Below V.heap.size V w')
      ∧ (∀ V, Below w.heap.size w V → Calls Try.prog 21 #[.slice a ms.length ka, .slice c bs.length kc, .int .i64 most] V fun e w' => (∃ v, e = .returned v ∧ IsL scs 1 (idleL ms bs most) v w') ∧ Below V.heap.size V w')
      ∧ (∀ V, Below w.heap.size w V → Calls Try.prog 22 #[.slice a ms.length ka, .slice c bs.length kc] V fun e w' => (∃ v, e = .returned v ∧ IsL scs 1 (emptyL ms bs) v w') ∧ Below V.heap.size V w')
      ∧ (∀ V, Below w.heap.size w V → Calls Try.prog 23 #[.slice a ms.length ka, .slice c bs.length kc] V fun e w' => (∃ v, e = .returned v ∧ IsL scs 1 (emptyL ms bs) v w') ∧ Below V.heap.size V w')
      ∧ (∀ nm p V, p ∈ movL bs nm → Below w.heap.size w V → Calls Try.prog 19 #[.agg #[.string (p).nm, .int .i64 (p).n0, .int .i64 (p).n1, .int .i64 (p).n2, .int .i64 (p).n3, .int .i64 (p).n4, .slice (p).la (p).labs.length (p).lk, .slice (p).sa (p).sels.length (p).sk, .slice (p).ta (p).trms.length (p).tk, .slice (p).ba (p).bers.length (p).bk, .slice (p).pa (p).prts.length (p).pk, .slice (p).aa (p).aprs.length (p).ak, .bool (p).wd, .slice (p).da (p).spds.length (p).dk, .int .i64 (p).sw, .int .i64 (p).rk, .string (p).ow, .bool (p).dm, .bool (p).pn, .bool (p).lc], .agg #[.string (p).nm, .int .i64 (p).n0, .int .i64 (p).n1, .int .i64 (p).n2, .int .i64 (p).n3, .int .i64 (p).n4, .slice (p).la (p).labs.length (p).lk, .slice (p).sa (p).sels.length (p).sk, .slice (p).ta (p).trms.length (p).tk, .slice (p).ba (p).bers.length (p).bk, .slice (p).pa (p).prts.length (p).pk, .slice (p).aa (p).aprs.length (p).ak, .bool (p).wd, .slice (p).da (p).spds.length (p).dk, .int .i64 (p).sw, .int .i64 (p).rk, .string (p).ow, .bool (p).dm, .bool (p).pn, .bool (p).lc]] V fun e w' => e = .returned (.bool true) ∧ Below V.heap.size V w')
      ∧ (∀ m ∈ ms, ¬ m.nm = emp) ∧ ms.length ≤ 20 ∧ bs.length ≤ 40 from
    ⟨fun nm V hV => bwhyg_any d c kd kc l bs nm V (hba.mono hV) (hG.mono hV) (fun x hx => (hbI x hx).mono hV) ok.bo.ln ok.bo.ll,
     fun nm V hn hV => rwhy_any d c kd kc l bs nm V (hba.mono hV) (hG.mono hV) (fun x hx => (hbI x hx).mono hV) ok.bo hn,
     fun nm V hV => (movable_any c kc bs nm V (hG.mono hV) (by have := ok.bl; omega)).mono fun e w' h => by
       obtain ⟨⟨v, rfl, hv⟩, hb⟩ := h
       obtain ⟨al, kl, rfl, -, hrl⟩ := IsL.of_own prow_len (by decide) hv
       exact ⟨⟨al, kl, rfl, hrl⟩, hb⟩,
     fun nm V hn hV => (rmovable_any c kc bs nm V (hG.mono hV) (by have := ok.bl; omega) hn).mono fun e w' h => by
       obtain ⟨⟨v, rfl, hv⟩, hb⟩ := h
       obtain ⟨al, kl, rfl, -, hrl⟩ := IsL.of_own prow_len (by decide) hv
       exact ⟨⟨al, kl, rfl, hrl⟩, hb⟩,
     fun m V hV => use_any m c kc bs V (hG.mono hV) (by have := ok.bl; omega),
     fun m V hV => ruse_any m c kc bs V (hG.mono hV) (by have := ok.bl; omega) ok.rt,
     fun V hV => (idle_any a c ka kc ms bs most V (hF.mono hV) (hG.mono hV) (by have := ok.ml; omega) (by have := ok.bl; omega)).mono fun e w' h => by
       obtain ⟨⟨v, rfl, hv⟩, hb⟩ := h
       exact ⟨⟨v, rfl, IsL.of_own scs_len (by decide) hv⟩, hb⟩,
     fun V hV => (ridle_any a c ka kc ms bs most V (hF.mono hV) (hG.mono hV) (by have := ok.ml; omega) (by have := ok.bl; omega) ok.rt).mono fun e w' h => by
       obtain ⟨⟨v, rfl, hv⟩, hb⟩ := h
       exact ⟨⟨v, rfl, IsL.of_own scs_len (by decide) hv⟩, hb⟩,
     fun V hV => (empty_any a c ka kc ms bs V (hF.mono hV) (hG.mono hV) (by have := ok.ml; omega) (by have := ok.bl; omega)).mono fun e w' h => by
       obtain ⟨⟨v, rfl, hv⟩, hb⟩ := h
       exact ⟨⟨v, rfl, IsL.of_own scs_len (by decide) hv⟩, hb⟩,
     fun V hV => (rempty_any a c ka kc ms bs V (hF.mono hV) (hG.mono hV) (by have := ok.ml; omega) (by have := ok.bl; omega) ok.nn).mono fun e w' h => by
       obtain ⟨⟨v, rfl, hv⟩, hb⟩ := h
       exact ⟨⟨v, rfl, IsL.of_own scs_len (by decide) hv⟩, hb⟩,
     fun nm p V hp hV => by
       obtain ⟨x, hx, rfl⟩ := movL_mem hp
       exact samepod_any x.p x.p V ((hbI x hx).mono hV) ((hbI x hx).mono hV) (ok.lp x hx) rfl,
     ok.nn, ok.ml, ok.bl⟩)
  have hzi : (idleL ms bs most).length ≤ ms.length := by unfold idleL; rw [List.length_map]; exact List.length_filter_le _ _
  have hze : (emptyL ms bs).length ≤ ms.length := by unfold emptyL; rw [List.length_map]; exact List.length_filter_le _ _
  have HLn := Lib.hid (fun nm => movL_len bs nm)
  obtain ⟨ZI, hZI⟩ : ∃ z, idleL ms bs most = z := ⟨_, rfl⟩
  obtain ⟨ZE, hZE⟩ : ∃ z, emptyL ms bs = z := ⟨_, rfl⟩
  rw [hZI, hZE] at HAll
  rw [hZI] at hzi
  rw [hZE] at hze
  obtain ⟨N, hN⟩ : ∃ N, bs.length = N := ⟨_, rfl⟩
  obtain ⟨n, hn⟩ : ∃ n, ms.length = n := ⟨_, rfl⟩
  obtain ⟨M, hM⟩ : ∃ M, l.length = M := ⟨_, rfl⟩
  have Hn := Lib.hid hn
  have HF := Lib.hid hF
  have HZI := Lib.hid hzi
  have HZE := Lib.hid hze
  rw [hN, hn, hM] at HRt HAll ⊢
  rw [hn] at HZI HZE
  rw [hN] at HLn
  obtain ⟨W, hW⟩ : ∃ W, W = w.alloc (.cells #[.slice d M kd, .int .i64 most] 55) := ⟨_, rfl⟩
  have HX := Lib.hid (show Box w.heap.size [.slice d M kd, .int .i64 most] W by rw [hW]; exact Box.new w [.slice d M kd, .int .i64 most] 55)
  have HB := Lib.hid (show Below w.heap.size w W by rw [hW]; exact (Below.refl _ _).alloc (Nat.le_refl _) _)
  have x0 : W.cell? ⟨w.heap.size, 0, none⟩ = some (.slice d M kd) := HX.out.cell 0
  have hlx := HX.out.lt
  clear hF hG hD hA hB hI hl hl2 hN hn hM hZI hZE hzi hze
  go_enter Try.func6, Try.ntmps6
  go_upto_region 1 with (fail)
  rw [← hW]
  clear hW
  go_wp2_with (first
    | (go_at_call 7; (with_reducible refine (HRt.out _ HB.out).mono ?_); rintro e w1 ⟨⟨g, rfl, hg⟩, hb⟩; have HB1 := Lib.hid (HB.out.trans (hb.mono HB.out.size)); have HX1 := Lib.hid (HX.out.mono hb); have HGr := Lib.hid hg; clear hb hg x0 hlx; cases g)
    | (go_at_call 8; (with_reducible refine (bknown_any _).mono ?_); rintro e w2 ⟨rfl, hb⟩; have HB2 := Lib.hid (HB1.out.trans (hb.mono HB1.out.size)); clear hb))
  · go_ret
    exact ⟨rfl, HB2.out⟩
  · obtain ⟨h1, h2, h3, h4, h5, h6, h7, h8, h9, ha, hb, hnn, hn9, hN9⟩ := HAll.out (HGr.out (by first | rfl | trivial))
    have HW1 := Lib.hid h1
    have HW2 := Lib.hid h2
    have HM1 := Lib.hid h3
    have HM2 := Lib.hid h4
    have HU1 := Lib.hid h5
    have HU2 := Lib.hid h6
    have HI1 := Lib.hid h7
    have HI2 := Lib.hid h8
    have HE1 := Lib.hid h9
    have HE2 := Lib.hid ha
    have HSP := Lib.hid hb
    have HNn := Lib.hid hnn
    clear h1 h2 h3 h4 h5 h6 h7 h8 h9 ha hb hnn HAll HGr HRt HX HB
    go_loopw [7] (fun vi wr => ∃ i : Nat, i ≤ n ∧ vi = .int .i64 i ∧ Below w1.heap.size w1 wr) (fun vi _ => n - (intOf vi).toNat)
    case atStart => exact ⟨0, Nat.zero_le _, rfl, Below.refl _ _⟩
    case round =>
      obtain ⟨i, hi, rfl, hB⟩ := hrel
      have HBi := Lib.hid hB
      have HB := Lib.hid (HB1.out.trans (hB.mono HB1.out.size))
      have HXi := Lib.hid (HX1.out.mono hB)
      have x0 : wr.cell? ⟨w.heap.size, 0, none⟩ = some (.slice d M kd) := HXi.out.cell 0
      have hlx := HXi.out.lt
      by_cases hlt : i < n
      · obtain ⟨m, hm⟩ := mem_at (l := ms) (k := i) (by rw [Hn.out]; exact hlt)
        have hne := HNn.out m (List.mem_of_getElem? hm)
        obtain ⟨q, o, rfl, hq, hc⟩ := (HF.out.mono HB.out) (by rw [Hn.out]; omega)
        have HRq := Lib.hid (show wr.rangeAt q (o + i * 10) [.string (m).nm, .string (m).gp, .int .i64 (m).r0, .int .i64 (m).r1, .int .i64 (m).r2, .int .i64 (m).r3, .int .i64 (m).r4, .slice (m).la (m).labs.length (m).lk, .slice (m).ta (m).tnts.length (m).tk, .bool (m).rd] from fun j v hj => by
          have hj10 : j < 10 := (List.getElem?_eq_some_iff.1 hj).1
          rw [hc i m hm j hj10]
          exact hj)
        have HC0 := Lib.hid (show wr.cell? ⟨q, o + i * 10, none⟩ = some (.string m.nm) from hc i m hm 0 (by decide))
        have c0 : wr.cell? ⟨q, o + i * 10, none⟩ = some (.string m.nm) := HC0.out
        obtain ⟨L, hL⟩ : ∃ L, movL bs m.nm = L := ⟨_, rfl⟩
        obtain ⟨t, ht⟩ : ∃ t, L.length = t := ⟨_, rfl⟩
        have htN : t ≤ N := by rw [← ht, ← hL]; exact HLn.out m.nm
        have HV1 := Lib.hid (HW1.out m.nm)
        have HV2 := Lib.hid (fun V => HW2.out m.nm V hne)
        have HV3 := Lib.hid (HM1.out m.nm)
        have HV4 := Lib.hid (fun V => HM2.out m.nm V hne)
        have HV5 := Lib.hid (HU1.out m)
        have HV6 := Lib.hid (HU2.out m)
        have HV7 := Lib.hid (HSP.out m.nm)
        obtain ⟨⟨x, y⟩, hxy⟩ : ∃ z, whyB l bs m.nm = z := ⟨_, rfl⟩
        obtain ⟨u, hu⟩ : ∃ z, useB m bs = z := ⟨_, rfl⟩
        rw [hxy] at HV1 HV2
        simp only [hL, ht] at HV3 HV4
        rw [hL] at HV7
        rw [hu] at HV5 HV6
        have Ht := Lib.hid ht
        clear hB hc hm hne hL ht hxy hu
        go_upto_region 6 with (fail)
        have hcH := held_cell
        refine region_rel (by kernel_rfl) (by kernel_rfl) ?_
        repeat
          ((with_reducible refine relStep (fun K hK => ?_))
           (have HK := Lib.hid hK)
           clear hK
           (apply relInl
            · intro r n hf
              have Hf := Lib.hid hf
              clear hf
              (first
                | (fail)
                | (unfold relAt
                   go_simp
                   (first | (refine relUpon_val ?_ (Below.refl _ _); exact rfl) | exact rfl | (refine relUpon_enter ?_; (go_at_call 12; (with_reducible refine (HV1.out _ (HB.out.trans (n.below.mono HB.out.size))).mono ?_); rintro e w9 ⟨rfl, hb⟩; exact ⟨⟨_, rfl, rfl⟩, hb⟩)))))
            (simp only [Act.put, List.setIfInBounds_toArray, List.set_cons_zero, List.set_cons_succ])
            (with_reducible refine HK.out _ _ ?_)
            clear HK K))
        refine relNil ?_
        intro r2 n2 hx2
        clear hcH
        (try simp only [List.nil_append, List.cons_append, List.mem_cons, List.not_mem_nil, or_false, forall_eq_or_imp, forall_eq, false_implies, implies_true] at hx2)
        obtain ⟨w2, hb2⟩ := n2
        (try dsimp only)
        obtain ⟨hc2, hf2⟩ := bcell hb2
        have hz2 := hb2.size
        (try simp at hz2)
        have HB2 := Lib.hid (HBi.out.trans (hb2.mono HBi.out.size))
        have HK2 := Lib.hid hb2
        clear hb2 hc2 hf2 hz2 x0 c0 hlx
        have x0 : w2.cell? ⟨w.heap.size, 0, none⟩ = some (.slice d M kd) := (HXi.out.mono HK2.out).cell 0
        have hlx := (HXi.out.mono HK2.out).lt
        have c0 : w2.cell? ⟨q, o + i * 10, none⟩ = some (.string m.nm) := (HK2.out.cell (p := ⟨q, o + i * 10, none⟩) hq).trans HC0.out
        have hq2 := Nat.lt_of_lt_of_le hq HK2.out.size
        have HBz := Lib.hid (HB1.out.trans (HB2.out.mono HB1.out.size))
        go_upto_region 7 with (fail)
        have hcH := held_cell
        refine region_rel (by kernel_rfl) (by kernel_rfl) ?_
        repeat
          ((with_reducible refine relStep (fun K hK => ?_))
           (have HK := Lib.hid hK)
           clear hK
           (apply relInl
            · intro r n hf
              have Hf := Lib.hid hf
              clear hf
              (first
                | (fail)
                | (unfold relAt
                   go_simp
                   (first | (refine relUpon_val ?_ (Below.refl _ _); exact rfl) | exact rfl | (refine relUpon_enter ?_; (go_at_call 16; (with_reducible refine (HV2.out _ (HBz.out.trans (n.below.mono HBz.out.size))).mono ?_); rintro e w9 ⟨rfl, hb⟩; exact ⟨⟨_, rfl, rfl⟩, hb⟩)))))
            (simp only [Act.put, List.setIfInBounds_toArray, List.set_cons_zero, List.set_cons_succ])
            (with_reducible refine HK.out _ _ ?_)
            clear HK K))
        refine relNil ?_
        intro r3 n3 hx3
        clear hcH
        (try simp only [List.nil_append, List.cons_append, List.mem_cons, List.not_mem_nil, or_false, forall_eq_or_imp, forall_eq, false_implies, implies_true] at hx3)
        obtain ⟨w3, hb3⟩ := n3
        (try dsimp only)
        obtain ⟨hc3, hf3⟩ := bcell hb3
        have hz3 := hb3.size
        (try simp at hz3)
        have HK3 := Lib.hid (HK2.out.trans (hb3.mono HK2.out.size))
        clear hb3 hc3 hf3 hz3 x0 c0 hlx hq2 HBz
        have c0 : w3.cell? ⟨q, o + i * 10, none⟩ = some (.string m.nm) := (HK3.out.cell (p := ⟨q, o + i * 10, none⟩) hq).trans HC0.out
        have hq3 := Nat.lt_of_lt_of_le hq HK3.out.size
        go_upto_region 9 with (go_at_call 13; (with_reducible refine (HV3.out _ (HB.out.trans (HK3.out.mono HB.out.size))).mono ?_); rintro e w4 ⟨⟨al, kl, rfl, hrl⟩, hb⟩; have HL4 := Lib.hid hrl; have HK4 := Lib.hid (HK3.out.trans (hb.mono HK3.out.size)); clear hb hrl)
        clear c0 hq3
        have c0 : w4.cell? ⟨q, o + i * 10, none⟩ = some (.string m.nm) := (HK4.out.cell (p := ⟨q, o + i * 10, none⟩) hq).trans HC0.out
        have hq4 := Nat.lt_of_lt_of_le hq HK4.out.size
        go_upto_region 10 with (go_at_call 17; (with_reducible refine (HV4.out _ (HB.out.trans (HK4.out.mono HB.out.size))).mono ?_); rintro e w5 ⟨⟨al2, kl2, rfl, hrl⟩, hb⟩; have HL5 := Lib.hid hrl; have HL6 := Lib.hid (HL4.out.mono hb); have HK5 := Lib.hid (HK4.out.trans (hb.mono HK4.out.size)); clear hb hrl)
        clear c0 hq4
        have HRm := Lib.hid (rangeAt_mono HRq.out hq HK5.out)
        have hq5 := Nat.lt_of_lt_of_le hq HK5.out.size
        have HB5 := Lib.hid (HB.out.trans (HK5.out.mono HB.out.size))
        have hcH := held_cell
        refine region_rel (by kernel_rfl) (by kernel_rfl) ?_
        repeat
          ((with_reducible refine relStep (fun K hK => ?_))
           (have HK := Lib.hid hK)
           clear hK
           (apply relInl
            · intro r n hf
              have Hf := Lib.hid hf
              clear hf
              (first
                | (((with_reducible refine at_rel (ty := 35) ?_); refine rel_load rfl q (o + i * 10) rfl [.string (m).nm, .string (m).gp, .int .i64 (m).r0, .int .i64 (m).r1, .int .i64 (m).r2, .int .i64 (m).r3, .int .i64 (m).r4, .slice (m).la (m).labs.length (m).lk, .slice (m).ta (m).tnts.length (m).tk, .bool (m).rd] _ Try.underlying35 rfl (by kernel_rfl) (rangeAt_mono HRm.out hq5 n.below) rfl))
                | (unfold relAt
                   go_simp
                   (first | (refine relUpon_val ?_ (Below.refl _ _); exact rfl) | exact rfl | (refine relUpon_enter ?_; (first | (go_at_call 11; (with_reducible refine (HV5.out _ (HB5.out.trans (n.below.mono HB5.out.size))).mono ?_); rintro e w9 ⟨rfl, hb⟩; exact ⟨⟨_, rfl, rfl⟩, hb⟩) | (go_at_call 18; (with_reducible refine (HV6.out _ (HB5.out.trans (n.below.mono HB5.out.size))).mono ?_); rintro e w9 ⟨rfl, hb⟩; exact ⟨⟨_, rfl, rfl⟩, hb⟩))))))
            (simp only [Act.put, List.setIfInBounds_toArray, List.set_cons_zero, List.set_cons_succ])
            (with_reducible refine HK.out _ _ ?_)
            clear HK K))
        refine relNil ?_
        intro r6 n6 hx6
        clear hcH
        (try simp only [List.nil_append, List.cons_append, List.mem_cons, List.not_mem_nil, or_false, forall_eq_or_imp, forall_eq, false_implies, implies_true] at hx6)
        obtain ⟨w6, hb6⟩ := n6
        (try dsimp only)
        obtain ⟨hc6, hf6⟩ := bcell hb6
        have hz6 := hb6.size
        (try simp at hz6)
        have HLa := Lib.hid (HL6.out.mono hb6)
        have HLb := Lib.hid (HL5.out.mono hb6)
        have HK6 := Lib.hid (HK5.out.trans (hb6.mono HK5.out.size))
        clear hb6 hc6 hf6 hz6 HRm hq5 HL4 HL5 HL6
        go_wp2
        have HB6 := Lib.hid (HB.out.trans (HK6.out.mono HB.out.size))
        have HBo := Lib.hid (HBi.out.trans (HK6.out.mono HBi.out.size))
        obtain ⟨V6, hV6⟩ : ∃ V, V = w6 := ⟨_, rfl⟩
        rw [← hV6] at HLa HLb HB6 HBo ⊢
        clear hV6
        go_loopw [14] (fun vj wy => ∃ j : Nat, j ≤ t ∧ vj = .int .i64 j ∧ Below V6.heap.size V6 wy) (fun vj _ => t - (intOf vj).toNat)
        case atStart => exact ⟨0, Nat.zero_le _, rfl, Below.refl _ _⟩
        case round =>
          obtain ⟨j, hj, rfl, hB⟩ := hrel
          have HBj := Lib.hid hB
          have HBw := Lib.hid (HB6.out.trans (hB.mono HB6.out.size))
          by_cases hjt : j < t
          · obtain ⟨p, hp⟩ := mem_at (l := L) (k := j) (by rw [Ht.out]; exact hjt)
            have HSa := Lib.hid (fun V => HV7.out p V (List.mem_of_getElem? hp))
            obtain ⟨b1, o1, rfl, hb1, hc1⟩ := (HLa.out.mono hB) (by rw [Ht.out]; omega)
            obtain ⟨b2, o2, rfl, hb2, hc2⟩ := (HLb.out.mono hB) (by rw [Ht.out]; omega)
            have HR1 := Lib.hid (show wr.rangeAt b1 (o1 + j * 20) [.string (p).nm, .int .i64 (p).n0, .int .i64 (p).n1, .int .i64 (p).n2, .int .i64 (p).n3, .int .i64 (p).n4, .slice (p).la (p).labs.length (p).lk, .slice (p).sa (p).sels.length (p).sk, .slice (p).ta (p).trms.length (p).tk, .slice (p).ba (p).bers.length (p).bk, .slice (p).pa (p).prts.length (p).pk, .slice (p).aa (p).aprs.length (p).ak, .bool (p).wd, .slice (p).da (p).spds.length (p).dk, .int .i64 (p).sw, .int .i64 (p).rk, .string (p).ow, .bool (p).dm, .bool (p).pn, .bool (p).lc] from fun i v hi => by
              have hi20 : i < 20 := (List.getElem?_eq_some_iff.1 hi).1
              rw [hc1 j p hp i hi20]
              exact hi)
            have HR2 := Lib.hid (show wr.rangeAt b2 (o2 + j * 20) [.string (p).nm, .int .i64 (p).n0, .int .i64 (p).n1, .int .i64 (p).n2, .int .i64 (p).n3, .int .i64 (p).n4, .slice (p).la (p).labs.length (p).lk, .slice (p).sa (p).sels.length (p).sk, .slice (p).ta (p).trms.length (p).tk, .slice (p).ba (p).bers.length (p).bk, .slice (p).pa (p).prts.length (p).pk, .slice (p).aa (p).aprs.length (p).ak, .bool (p).wd, .slice (p).da (p).spds.length (p).dk, .int .i64 (p).sw, .int .i64 (p).rk, .string (p).ow, .bool (p).dm, .bool (p).pn, .bool (p).lc] from fun i v hi => by
              have hi20 : i < 20 := (List.getElem?_eq_some_iff.1 hi).1
              rw [hc2 j p hp i hi20]
              exact hi)
            clear hB hp hc1 hc2
            go_upto_region 15 with (fail)
            have hcH := held_cell
            refine region_rel (by kernel_rfl) (by kernel_rfl) ?_
            repeat
              ((with_reducible refine relStep (fun K hK => ?_))
               (have HK := Lib.hid hK)
               clear hK
               (apply relInl
                · intro r n hf
                  have Hf := Lib.hid hf
                  clear hf
                  (first
                    | (((with_reducible refine at_rel (ty := 50) ?_); first | refine rel_load rfl b1 (o1 + j * 20) rfl [.string (p).nm, .int .i64 (p).n0, .int .i64 (p).n1, .int .i64 (p).n2, .int .i64 (p).n3, .int .i64 (p).n4, .slice (p).la (p).labs.length (p).lk, .slice (p).sa (p).sels.length (p).sk, .slice (p).ta (p).trms.length (p).tk, .slice (p).ba (p).bers.length (p).bk, .slice (p).pa (p).prts.length (p).pk, .slice (p).aa (p).aprs.length (p).ak, .bool (p).wd, .slice (p).da (p).spds.length (p).dk, .int .i64 (p).sw, .int .i64 (p).rk, .string (p).ow, .bool (p).dm, .bool (p).pn, .bool (p).lc] _ Try.underlying50 rfl (by kernel_rfl) (rangeAt_mono HR1.out hb1 n.below) rfl | refine rel_load rfl b2 (o2 + j * 20) rfl [.string (p).nm, .int .i64 (p).n0, .int .i64 (p).n1, .int .i64 (p).n2, .int .i64 (p).n3, .int .i64 (p).n4, .slice (p).la (p).labs.length (p).lk, .slice (p).sa (p).sels.length (p).sk, .slice (p).ta (p).trms.length (p).tk, .slice (p).ba (p).bers.length (p).bk, .slice (p).pa (p).prts.length (p).pk, .slice (p).aa (p).aprs.length (p).ak, .bool (p).wd, .slice (p).da (p).spds.length (p).dk, .int .i64 (p).sw, .int .i64 (p).rk, .string (p).ow, .bool (p).dm, .bool (p).pn, .bool (p).lc] _ Try.underlying50 rfl (by kernel_rfl) (rangeAt_mono HR2.out hb2 n.below) rfl))
                    | (unfold relAt
                       go_simp
                       (first | (refine relUpon_val ?_ (Below.refl _ _); exact rfl) | exact rfl | (refine relUpon_enter ?_; (go_at_call 19; (with_reducible refine (HSa.out _ (HBw.out.trans (n.below.mono HBw.out.size))).mono ?_); rintro e w9 ⟨rfl, hb⟩; exact ⟨⟨_, rfl, rfl⟩, hb⟩)))))
                (simp only [Act.put, List.setIfInBounds_toArray, List.set_cons_zero, List.set_cons_succ])
                (with_reducible refine HK.out _ _ ?_)
                clear HK K))
            refine relNil ?_
            intro r7 n7 hx7
            clear hcH
            (try simp only [List.nil_append, List.cons_append, List.mem_cons, List.not_mem_nil, or_false, forall_eq_or_imp, forall_eq, false_implies, implies_true] at hx7)
            obtain ⟨w7, hb7⟩ := n7
            (try dsimp only)
            obtain ⟨hc7, hf7⟩ := bcell hb7
            have hz7 := hb7.size
            (try simp at hz7)
            have HB7 := Lib.hid (HBj.out.trans (hb7.mono HBj.out.size))
            clear hb7 hc7 hf7 hz7
            go_wp2
            go_roundw
            case rel => exact ⟨j + 1, by omega, by go_num, HB7.out⟩
            case measure => simp [intOf]; omega
          · obtain rfl : j = t := by omega
            clear hB
            go_wp2
            go_roundw
            case rel => exact ⟨i + 1, by omega, by go_num, HBo.out.trans (HBj.out.mono HBo.out.size)⟩
            case measure => simp [intOf]; omega
      · obtain rfl : i = n := by omega
        have HZl := Lib.hid (show ZI.length ≤ 1000000 by have := HZI.out; omega)
        have HZm := Lib.hid (show ZE.length ≤ 1000000 by have := HZE.out; omega)
        have x1 : wr.cell? ⟨w.heap.size, 1, none⟩ = some (.int .i64 most) := HXi.out.cell 1
        clear hB x0 HW1 HW2 HM1 HM2 HU1 HU2 HSP HNn HZI HZE HLn
        go_upto_region 17 with (fail)
        have hcH := held_cell
        refine region_rel (by kernel_rfl) (by kernel_rfl) ?_
        repeat
          ((with_reducible refine relStep (fun K hK => ?_))
           (have HK := Lib.hid hK)
           clear hK
           (apply relInl
            · intro r n hf
              have Hf := Lib.hid hf
              clear hf
              (first
                | (fail)
                | (unfold relAt
                   go_simp
                   (first | (refine relUpon_val ?_ (Below.refl _ _); exact rfl) | exact rfl | (refine relUpon_enter ?_; fail))))
            (simp only [Act.put, List.setIfInBounds_toArray, List.set_cons_zero, List.set_cons_succ])
            (with_reducible refine HK.out _ _ ?_)
            clear HK K))
        (with_reducible refine relStep (fun K hK => ?_))
        (have HK := Lib.hid hK)
        clear hK
        refine relInr (IsL scs 1 ZI) (IsL.stays _) (fun r n hf => ?_) ?_
        · have Hf := Lib.hid hf
          clear hf HK K
          unfold relAt
          (skip)
          go_simp
          ((refine relUpon_enter ?_; go_at_call 9; (with_reducible refine (HI1.out _ (HB.out.trans (n.below.mono HB.out.size))).mono ?_); rintro e w9 ⟨⟨v, rfl, hv⟩, hb⟩; exact ⟨⟨_, rfl, hv⟩, hb⟩))
        (simp only [Act.put, List.setIfInBounds_toArray, List.set_cons_zero, List.set_cons_succ])
        (with_reducible refine HK.out _ _ ?_)
        clear HK K
        repeat
          ((with_reducible refine relStep (fun K hK => ?_))
           (have HK := Lib.hid hK)
           clear hK
           (apply relInl
            · intro r n hf
              have Hf := Lib.hid hf
              clear hf
              (first
                | (fail)
                | (unfold relAt
                   go_simp
                   (first | (refine relUpon_val ?_ (Below.refl _ _); exact rfl) | exact rfl | (refine relUpon_enter ?_; fail))))
            (simp only [Act.put, List.setIfInBounds_toArray, List.set_cons_zero, List.set_cons_succ])
            (with_reducible refine HK.out _ _ ?_)
            clear HK K))
        (with_reducible refine relStep (fun K hK => ?_))
        (have HK := Lib.hid hK)
        clear hK
        refine relInr (IsL scs 1 ZI) (IsL.stays _) (fun r n hf => ?_) ?_
        · have Hf := Lib.hid hf
          clear hf HK K
          unfold relAt
          (skip)
          go_simp
          ((refine relUpon_enter ?_; go_at_call 21; (with_reducible refine (HI2.out _ (HB.out.trans (n.below.mono HB.out.size))).mono ?_); rintro e w9 ⟨⟨v, rfl, hv⟩, hb⟩; exact ⟨⟨_, rfl, hv⟩, hb⟩))
        (simp only [Act.put, List.setIfInBounds_toArray, List.set_cons_zero, List.set_cons_succ])
        (with_reducible refine HK.out _ _ ?_)
        clear HK K
        ((with_reducible refine relStep (fun K hK => ?_))
         (have HK := Lib.hid hK)
         clear hK
         (apply relInl
          · intro r n hf
            have Hf := Lib.hid hf
            clear hf
            ((obtain ⟨a1, k1, e1, _, g1⟩ := given_at Hf.out 0 rfl (by dsimp only; decide +kernel); obtain ⟨a2, k2, e2, _, g2⟩ := given_at Hf.out 1 rfl (by dsimp only; decide +kernel); dsimp only at e1 e2; unfold relAt; go_simp; refine relUpon_enter ?_; go_at_call 20; (try rw [e1, e2]); (with_reducible refine (btexts_same a1 a2 k1 k2 ZI _ g1 g2 HZl.out).mono ?_); rintro e w9 ⟨rfl, hb⟩; exact ⟨⟨_, rfl, rfl⟩, hb⟩)))
         (simp only [Act.put, List.setIfInBounds_toArray, List.set_cons_zero, List.set_cons_succ])
         (with_reducible refine HK.out _ _ ?_)
         clear HK K)
        repeat
          ((with_reducible refine relStep (fun K hK => ?_))
           (have HK := Lib.hid hK)
           clear hK
           (apply relInl
            · intro r n hf
              have Hf := Lib.hid hf
              clear hf
              (first
                | (fail)
                | (unfold relAt
                   go_simp
                   (first | (refine relUpon_val ?_ (Below.refl _ _); exact rfl) | exact rfl | (refine relUpon_enter ?_; fail))))
            (simp only [Act.put, List.setIfInBounds_toArray, List.set_cons_zero, List.set_cons_succ])
            (with_reducible refine HK.out _ _ ?_)
            clear HK K))
        (with_reducible refine relStep (fun K hK => ?_))
        (have HK := Lib.hid hK)
        clear hK
        refine relInr (IsL scs 1 ZE) (IsL.stays _) (fun r n hf => ?_) ?_
        · have Hf := Lib.hid hf
          clear hf HK K
          unfold relAt
          (skip)
          go_simp
          ((refine relUpon_enter ?_; go_at_call 22; (with_reducible refine (HE1.out _ (HB.out.trans (n.below.mono HB.out.size))).mono ?_); rintro e w9 ⟨⟨v, rfl, hv⟩, hb⟩; exact ⟨⟨_, rfl, hv⟩, hb⟩))
        (simp only [Act.put, List.setIfInBounds_toArray, List.set_cons_zero, List.set_cons_succ])
        (with_reducible refine HK.out _ _ ?_)
        clear HK K
        repeat
          ((with_reducible refine relStep (fun K hK => ?_))
           (have HK := Lib.hid hK)
           clear hK
           (apply relInl
            · intro r n hf
              have Hf := Lib.hid hf
              clear hf
              (first
                | (fail)
                | (unfold relAt
                   go_simp
                   (first | (refine relUpon_val ?_ (Below.refl _ _); exact rfl) | exact rfl | (refine relUpon_enter ?_; fail))))
            (simp only [Act.put, List.setIfInBounds_toArray, List.set_cons_zero, List.set_cons_succ])
            (with_reducible refine HK.out _ _ ?_)
            clear HK K))
        (with_reducible refine relStep (fun K hK => ?_))
        (have HK := Lib.hid hK)
        clear hK
        refine relInr (IsL scs 1 ZE) (IsL.stays _) (fun r n hf => ?_) ?_
        · have Hf := Lib.hid hf
          clear hf HK K
          unfold relAt
          (skip)
          go_simp
          ((refine relUpon_enter ?_; go_at_call 23; (with_reducible refine (HE2.out _ (HB.out.trans (n.below.mono HB.out.size))).mono ?_); rintro e w9 ⟨⟨v, rfl, hv⟩, hb⟩; exact ⟨⟨_, rfl, hv⟩, hb⟩))
        (simp only [Act.put, List.setIfInBounds_toArray, List.set_cons_zero, List.set_cons_succ])
        (with_reducible refine HK.out _ _ ?_)
        clear HK K
        ((with_reducible refine relStep (fun K hK => ?_))
         (have HK := Lib.hid hK)
         clear hK
         (apply relInl
          · intro r n hf
            have Hf := Lib.hid hf
            clear hf
            ((obtain ⟨a1, k1, e1, _, g1⟩ := given_at Hf.out 2 rfl (by dsimp only; decide +kernel); obtain ⟨a2, k2, e2, _, g2⟩ := given_at Hf.out 3 rfl (by dsimp only; decide +kernel); dsimp only at e1 e2; unfold relAt; go_simp; refine relUpon_enter ?_; go_at_call 20; (try rw [e1, e2]); (with_reducible refine (btexts_same a1 a2 k1 k2 ZE _ g1 g2 HZm.out).mono ?_); rintro e w9 ⟨rfl, hb⟩; exact ⟨⟨_, rfl, rfl⟩, hb⟩)))
         (simp only [Act.put, List.setIfInBounds_toArray, List.set_cons_zero, List.set_cons_succ])
         (with_reducible refine HK.out _ _ ?_)
         clear HK K)
        repeat
          ((with_reducible refine relStep (fun K hK => ?_))
           (have HK := Lib.hid hK)
           clear hK
           (apply relInl
            · intro r n hf
              have Hf := Lib.hid hf
              clear hf
              (first
                | (fail)
                | (unfold relAt
                   go_simp
                   (first | (refine relUpon_val ?_ (Below.refl _ _); exact rfl) | exact rfl | (refine relUpon_enter ?_; (go_at_call 8; (with_reducible refine (bknown_any _).mono ?_); rintro e w9 ⟨rfl, hb⟩; exact ⟨⟨_, rfl, rfl⟩, hb⟩)))))
            (simp only [Act.put, List.setIfInBounds_toArray, List.set_cons_zero, List.set_cons_succ])
            (with_reducible refine HK.out _ _ ?_)
            clear HK K))
        refine relNil ?_
        intro r9 n9 hx9
        clear hcH
        (try simp only [List.nil_append, List.cons_append, List.mem_cons, List.not_mem_nil, or_false, forall_eq_or_imp, forall_eq, false_implies, implies_true] at hx9)
        obtain ⟨w9, hb9⟩ := n9
        (try dsimp only)
        obtain ⟨hc9, hf9⟩ := bcell hb9
        have hz9 := hb9.size
        (try simp at hz9)
        have HB9 := Lib.hid (HB.out.trans (hb9.mono HB.out.size))
        go_wp2
        go_ret
        exact ⟨by first | rfl | trivial, HB9.out⟩
set_option maxRecDepth 100000 in
theorem walk {H : Type} {enc : TypeId × Value → H} {W : World} {base : Nat} {v u x : Value} {d e f : DataW H} {p q r : List MemPlace}
    (hv : Value.okWide Try.prog W .any base 22 v) (h : DataW.Trod enc Try.prog W 0 (fun _ => true) true 22 v d p)
    (hu : Value.okWide Try.prog W .any base 23 u) (h2 : DataW.Trod enc Try.prog W 0 (fun _ => true) true 23 u e q)
    (hx : Value.okWide Try.prog W .any base 55 x) (h3 : DataW.Trod enc Try.prog W 0 (fun _ => true) true 55 x f r) :
    Calls Try.prog 6 #[v, u, x] W fun e W' => e = .returned (.bool true) ∧ Below W.heap.size W W' := by
  obtain ⟨a, l, k, rfl, -, hF, hm, -, hI⟩ := open_macs hv h
  obtain ⟨c, l2, k2, rfl, -, hG, hm2, -, hI2⟩ := open_bnds hu h2
  obtain ⟨d, l3, k3, most, rfl, hD, -, hI3⟩ := open_ask hx h3
  exact walk1 a k l c k2 l2 d k3 l3 most W hF hG hD hI hI2 hI3 hm hm2

set_option maxRecDepth 100000 in
theorem lifted (os : Os) (started : os.Started) (H : Type) (enc : TypeId × Value → H) :
    ReturnsInHanded {} Try.checked os 6 .any (Rows.blockTellsSpec.pre6 enc Try.prog Try.f6 Rows.blockTellsRow.domain false) (Rows.blockTellsSpec.post enc Try.prog Try.f6 false true false false) := by
  refine returnsInHanded_of_change (C := Try.checked) Try.own started (by kernel_rfl) Try.func6
    (ChangeSpec.witness6 (enc := enc) (C := Try.checked) false ⟨#[], #[.slice none 0 0, .slice none 0 0, .agg #[.slice none 0 0, .int .i64 0]], []⟩ 8 (by kernel_rfl) (by kernel_rfl) (by kernel_rfl) (by kernel_rfl)) ?_
  intro W base args ds gs before hval hW _ _
  have hW' := hW
  obtain ⟨p, q, hA, hV, rfl, hfz, hnd⟩ := hW
  rw [Try.params6] at hA hval
  obtain ⟨v0, v1, v2, d0, d1, d2, p0, p1, p2, rfl, rfl, rfl, h0, h1, h2⟩ := trodAll_three hA
  refine (walk (hval 0 22 v0 rfl rfl) h0 (hval 1 23 v1 rfl rfl) h1 (hval 2 55 v2 rfl rfl) h2).mono fun e W' ⟨he, hb⟩ => ?_
  exact ⟨_, he, law_post Try.laidOut hW' rfl (by kernel_rfl) (by kernel_rfl) Try.underlying4 rfl rfl rfl hb⟩

theorem over : Rows.blockTellsRow.holds Try.pinned (OpenSpec.ofChange Rows.blockTellsSpec) :=
  OpenClaim.holds_of_wide 6 Try.f6 rfl rfl rfl rfl rfl rfl rfl ⟨rfl, rfl, rfl, rfl, rfl⟩ rfl rfl rfl rfl rfl (by kernel_rfl) Try.func6 (by kernel_rfl)
    (of_decide_eq_true (by kernel_rfl)) (by unfold Func.isWrapper; first | (rw [if_pos (by decide +kernel)]; kernel_rfl) | (rw [if_neg (by decide +kernel)]; exact ⟨rfl, rfl⟩))
    (fun os started H enc _ => lifted os started H enc)

/-- The statement. -/
theorem proved : Rows.BlockTellsSaid := over
end blockTells
end Go.Proofs.Ytkmhicoimgpdlaa
