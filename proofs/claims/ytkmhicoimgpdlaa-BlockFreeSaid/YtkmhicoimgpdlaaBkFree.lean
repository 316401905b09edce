/-
  BlockFree: what nothing blocks can be emptied, one pod after the other, within all budgets, and is empty then; what is empty is not blocked.
-/
import Derived.Test.YtkmhicoimgpdlaaBf4
namespace Go.Proofs.Ytkmhicoimgpdlaa
open Go.ChangeShapes Go.WideShapes Go.ChangeAt Go.RowKit
set_option linter.unusedVariables false
set_option linter.unusedSimpArgs false
namespace blockFree

/-- What stands of the pods on the way. -/
structure EvS (bs B : List Bd) : Prop where
  ln : B.length = bs.length
  bo : BO B
  mm : ∀ x ∈ B, ∃ y ∈ bs, x.p = y.p
theorem EvS.next {bs B : List Bd} (h : EvS bs B) (nm : ByteArray) : EvS bs (evBs nm B) :=
  ⟨(ev_len nm B).trans h.ln, h.bo.ev nm, fun x hx => by
    obtain ⟨y, hy, e⟩ := ev_mem nm B x hx
    obtain ⟨z, hz, e2⟩ := h.mm y hy
    exact ⟨z, hz, e.trans e2⟩⟩
theorem bo_of {ms : List Mac} {bs : List Bd} {l : List Bg} (hr : RightB ms bs l) : BO bs := by
  have hly := lightY_iff hr.ly
  have hck := check_pods hr.ck
  refine ⟨hck.2, fun x hx => ?_, by have := hly.2.1; omega, fun x hx => by have := (lightL_iff _).1 (lightP_iff (hly.2.2.2 x hx).1).l0; omega⟩
  have h := hck.1 x hx
  unfold rightP at h
  simp only [Bool.and_eq_true, decide_eq_true_eq] at h
  exact Lb.sorted_of h.1.1.1.1.1.1.1.1.1.2
theorem movable_sl (a : Option Addr) (ka : Nat) (bs : List Bd) (nm : ByteArray) (w : World) (hF : BndL w a bs) (hl : bs.length ≤ 1000000) {m : Nat} (hm : (movL bs nm).length = m) :
    Calls Try.prog 13 #[.slice a bs.length ka, .string nm] w fun e w' => (∃ c k, e = .returned (.slice c m k) ∧ RowsAt prow 20 w' c (movL bs nm)) ∧ Below w.heap.size w w' :=
  (movable_any a ka bs nm w hF hl).mono fun e w' h => by
    obtain ⟨⟨v, rfl, hv⟩, hb⟩ := h
    obtain ⟨al, kl, rfl, -, hrl⟩ := IsL.of_own prow_len (by decide) hv
    exact ⟨⟨al, kl, by rw [hm], hrl⟩, hb⟩
set_option maxRecDepth 100000 in
set_option maxHeartbeats 16000000 in
theorem walk1 (a : Option Addr) (ka : Nat) (ms : List Mac) (c : Option Addr) (kc : Nat) (bs : List Bd) (d : Option Addr) (kd : Nat) (l : List Bg) (w : World) (hF : MacL w a ms) (hG : BndL w c bs) (hD : BgL w d l) (hA : ∀ m ∈ ms, MacIn w m) (hB : ∀ b ∈ bs, BndIn w b) (hI : ∀ b ∈ l, BgIn w b) (hl : ms.length ≤ maxLen) (hl2 : bs.length ≤ maxLen) (hlk : l.length ≤ kd) :
    Calls Try.prog 5 #[.slice a ms.length ka, .slice c bs.length kc, .slice d l.length kd] w fun e w' => e = .returned (.bool true) ∧ Below w.heap.size w w' := by
  have hRt := bright_any a c d ka kc kd ms bs l w hF hG hD hA hB hI hl hl2
  have HAll := Lib.hid (fun (hr : RightB ms bs l) =>
    have hly := lightY_iff hr.ly
    have hba := ba_of hD hI hr.lg hr.rg
    have hbo := bo_of hr
    show (∀ nm V, Below w.heap.size w V → Calls Try.prog 12 #[.slice c bs.length kc, .slice d l.length kd, .string nm] V fun e w' => e = .returned (.tuple #[.string (whyB l bs nm).1, .int .i64 (whyB l bs nm).2]) ∧ Below V.heap.size V w')
      ∧ (∀ (B : List Bd) (c2 : Option Addr) (k2 : Nat) nm V m, Below w.heap.size w V → BndL V c2 B → B.length = bs.length → (movL B nm).length = m → Calls Try.prog 13 #[.slice c2 bs.length k2, .string nm] V fun e w' => (∃ c k, e = .returned (.slice c m k) ∧ RowsAt prow 20 w' c (movL B nm)) ∧ Below V.heap.size V w')
      ∧ (∀ (B : List Bd) (c2 : Option Addr) (k2 : Nat) nm V, Below w.heap.size w V → BndL V c2 B → EvS bs B → mayE l B nm = 0 → Calls Try.prog 14 #[.slice d l.length kd, .slice c2 bs.length k2, .string nm] V fun e w' => (∃ a k, e = .returned (.tuple #[.slice a bs.length k, .int .i64 0]) ∧ BndL w' a (evBs nm B)) ∧ Below V.heap.size V w')
      ∧ (∀ (B : List Bd) (c2 : Option Addr) (k2 : Nat) b V, b ∈ l → Below w.heap.size w V → BndL V c2 B → EvS bs B → Calls Try.prog 15 #[.agg #[.string b.nm, .slice b.ma b.mt.length b.mk', .int .i64 b.le], .slice c2 bs.length k2] V fun e w' => e = .returned (.int .i64 (spareB b B)) ∧ Below V.heap.size V w')
      ∧ EvS bs bs ∧ OnceN bs ∧ ms.length ≤ 200 ∧ l.length ≤ 30 ∧ bs.length ≤ 1000 from
    ⟨fun nm V hV => bwhyg_any d c kd kc l bs nm V (hba.mono hV) (hG.mono hV) (fun x hx => ((hB x hx).mono hV).here) hbo.ln hbo.ll,
     fun B c2 k2 nm V m hV hG2 he hm => by
       have h9 := movable_sl c2 k2 B nm V hG2 (by have := hbo.ln; omega) hm
       rw [he] at h9
       exact h9,
     fun B c2 k2 nm V hV hG2 hE hm => by
       have h9 := revict_yes d c2 kd k2 l B nm V (hba.mono hV) hG2 (fun x hx => by
         obtain ⟨y, hy, e⟩ := hE.mm x hx
         rw [e]
         exact ((hB y hy).mono hV).here) hE.bo hm
       rw [hE.ln] at h9
       exact h9,
     fun B c2 k2 b V hb hV hG2 hE => by
       have h9 := rspare_any b c2 k2 B V ((hba.bi b hb).mono hV) hG2 (fun x hx => by
         obtain ⟨y, hy, e⟩ := hE.mm x hx
         rw [e]
         exact ((hB y hy).mono hV).here) (by have := hE.bo.ln; omega) (by have := hba.ml b hb; omega) (fun x hx => by have := hE.bo.ll x hx; omega) hE.bo.so (hba.l0 b hb).1 (hba.l0 b hb).2
       rw [hE.ln] at h9
       exact h9,
     ⟨rfl, hbo, fun x hx => ⟨x, hx, rfl⟩⟩, once_of hbo.tw, by have := hly.1; omega, hr.lg.1, hbo.ln⟩)
  obtain ⟨N, hN⟩ : ∃ N, bs.length = N := ⟨_, rfl⟩
  obtain ⟨n, hn⟩ : ∃ n, ms.length = n := ⟨_, rfl⟩
  obtain ⟨M, hM⟩ : ∃ M, l.length = M := ⟨_, rfl⟩
  have Hn := Lib.hid hn
  have HM := Lib.hid hM
  have HNn := Lib.hid hN
  have HF := Lib.hid hF
  have HG := Lib.hid hG
  have HD := Lib.hid hD
  rw [hN, hn, hM] at hRt
  rw [hN, hM, hn] at HAll
  rw [hM] at hlk
  rw [hN, hn, hM]
  have HRt := Lib.hid hRt
  clear hRt hF hG hD hA hB hI hl hl2 hN hn hM
  go_enter Try.func5, Try.ntmps5
  go_wp2_with (first
    | (go_at_call 7; (with_reducible refine (HRt.out).mono ?_); rintro e w1 ⟨⟨g, rfl, hg⟩, hb⟩; have HB1 := Lib.hid hb; have HGr := Lib.hid hg; clear hb hg; cases g)
    | (go_at_call 8; (with_reducible refine (bknown_any _).mono ?_); rintro e w2 ⟨rfl, hb⟩; have HB2 := Lib.hid (HB1.out.trans (hb.mono HB1.out.size)); clear hb))
  · go_ret
    exact ⟨rfl, HB2.out⟩
  · obtain ⟨h1, h2, h3, h4, h5, h6, hn9, hm9, hN9⟩ := HAll.out (HGr.out (by first | rfl | trivial))
    have HW1 := Lib.hid h1
    have HW2 := Lib.hid h2
    have HW3 := Lib.hid h3
    have HW4 := Lib.hid h4
    have HE0 := Lib.hid h5
    have HOn := Lib.hid h6
    clear h1 h2 h3 h4 h5 h6 HAll HGr HRt
    go_loopw [7] (fun vi wr => ∃ i : Nat, i ≤ n ∧ vi = .int .i64 i ∧ Below w.heap.size w wr) (fun vi _ => n - (intOf vi).toNat)
    case atStart => exact ⟨0, Nat.zero_le _, rfl, HB1.out⟩
    case round =>
      clear HB1
      obtain ⟨i, hi, rfl, hB⟩ := hrel
      have HB := Lib.hid hB
      by_cases hlt : i < n
      · obtain ⟨m, hm⟩ := mem_at (l := ms) (k := i) (by rw [Hn.out]; exact hlt)
        obtain ⟨q, o, rfl, hq, hc⟩ := HF.out (by rw [Hn.out]; omega)
        have HC0 := Lib.hid (show w.cell? ⟨q, o + i * 10, none⟩ = some (.string m.nm) from hc i m hm 0 (by decide))
        have c0 : wr.cell? ⟨q, o + i * 10, none⟩ = some (.string m.nm) := (hB.cell (p := ⟨q, o + i * 10, none⟩) hq).trans HC0.out
        have hqr := Nat.lt_of_lt_of_le hq hB.size
        obtain ⟨nm, hnm⟩ : ∃ nm, m.nm = nm := ⟨_, rfl⟩
        rw [hnm] at HC0 c0
        obtain ⟨L, hL⟩ : ∃ L, movL bs nm = L := ⟨_, rfl⟩
        obtain ⟨t, ht⟩ : ∃ t, L.length = t := ⟨_, rfl⟩
        have Ht := Lib.hid ht
        have htN : t ≤ N := by rw [← ht, ← hL, ← HNn.out]; exact movL_len bs nm
        have HX1 := Lib.hid (HW1.out nm)
        have HX2 := Lib.hid (fun V (hV : Below w.heap.size w V) (hg : BndL V c bs) => show Calls Try.prog 13 #[.slice c N kc, .string nm] V fun e w' => (∃ c k, e = .returned (.slice c t k) ∧ RowsAt prow 20 w' c L) ∧ Below V.heap.size V w' by
          have h9 := HW2.out bs c kc nm V t hV hg HNn.out (by rw [hL, ht])
          rw [hL] at h9
          exact h9)
        have HX3 := Lib.hid (fun (c2 : Option Addr) (k2 : Nat) V (hV : Below w.heap.size w V) (hg : BndL V c2 (evL bs L)) (hlb : (evL bs L).length = N) => show Calls Try.prog 13 #[.slice c2 N k2, .string nm] V fun e w' => (∃ c k, e = .returned (.slice c 0 k)) ∧ Below V.heap.size V w' by
          have h8 := mov_free HOn.out nm
          rw [hL] at h8
          have h9 := HW2.out (evL bs L) c2 k2 nm V 0 hV hg hlb (by rw [h8]; rfl)
          exact h9.mono fun e w' h => ⟨by obtain ⟨⟨c, k, e1, -⟩, -⟩ := h; exact ⟨c, k, e1⟩, h.2⟩)
        have HFr := Lib.hid (fun (h : (whyB l bs nm).2 = 0) => show blkE L = 0 ∧ evA l bs L = (emp, 0) by have h9 := why_free h; rw [hL] at h9; exact h9)
        have HNo := Lib.hid (fun (h : t = 0) => show (whyB l bs nm).2 = 0 by rw [why_none (by rw [hL]; exact List.eq_nil_of_length_eq_zero (ht.trans h))])
        have HDm := Lib.hid (show ∀ p ∈ L, p.dm = false by rw [← hL]; exact mov_day)
        obtain ⟨⟨x, y⟩, hxy⟩ : ∃ z, whyB l bs nm = z := ⟨_, rfl⟩
        rw [hxy] at HX1 HFr HNo
        clear hB hc hm hnm hxy hL ht
        go_upto_region 7 with (go_at_call 12; (with_reducible refine (HX1.out _ HB.out).mono ?_); rintro e w2 ⟨rfl, hb⟩; have HB2 := Lib.hid (HB.out.trans (hb.mono HB.out.size)); clear hb)
        clear c0 hqr
        have c0 : w2.cell? ⟨q, o + i * 10, none⟩ = some (.string nm) := (HB2.out.cell (p := ⟨q, o + i * 10, none⟩) hq).trans HC0.out
        have hqr := Nat.lt_of_lt_of_le hq HB2.out.size
        go_upto_region 8 with (go_at_call 13; (with_reducible refine (HX2.out _ HB2.out (HG.out.mono HB2.out)).mono ?_); rintro e w3 ⟨⟨al, kl, rfl, hrl⟩, hb⟩; have HL3 := Lib.hid hrl; have HB3 := Lib.hid (HB2.out.trans (hb.mono HB2.out.size)); clear hb hrl)
        clear c0 hqr
        by_cases hy : y = 0
        · subst hy
          obtain ⟨hbk, hev⟩ := HFr.out rfl
          have HBk := Lib.hid (blk_free hbk)
          have HEv := Lib.hid hev
          clear hbk hev HFr HNo HX1 HX2
          go_upto_region 12 with (fail)
          all_goals
            go_wp2
            obtain ⟨V3, hV3⟩ : ∃ V, V = w3 := ⟨_, rfl⟩
            subst hV3
            go_loopw [11, 12] (fun vn vk wy => ∃ (k : Nat) (B : List Bd) (c2 : Option Addr) (k2 : Nat), k ≤ t ∧ vk = .int .i64 k ∧ vn = .slice c2 N k2 ∧ BndL wy c2 B ∧ EvS bs B ∧ B = evL bs (L.take k) ∧ evA l B (L.drop k) = (emp, 0) ∧ Below V3.heap.size V3 wy) (fun _ vk _ => t - (intOf vk).toNat)
            case atStart => exact ⟨0, bs, c, kc, Nat.zero_le _, rfl, rfl, HG.out.mono HB3.out, HE0.out, rfl, HEv.out, Below.refl _ _⟩
            case round =>
              obtain ⟨k, B, c2, k2, hk, rfl, rfl, hg, hE, hBe, hA, hB⟩ := hrel
              have HBk2 := Lib.hid hB
              have HGk := Lib.hid hg
              have HEk := Lib.hid hE
              have HBw := Lib.hid (HB3.out.trans (hB.mono HB3.out.size))
              by_cases hkt : k < t
              · obtain ⟨p, hp⟩ := mem_at (l := L) (k := k) (by rw [Ht.out]; exact hkt)
                have hpm := List.mem_of_getElem? hp
                have hd : L.drop k = p :: L.drop (k + 1) := by
                  obtain ⟨h1, h2⟩ := List.getElem?_eq_some_iff.1 hp
                  rw [List.drop_eq_getElem_cons h1, h2]
                rw [hd] at hA
                obtain ⟨hma, hA2⟩ := evA_may hA
                have HXe := Lib.hid (HW3.out B c2 k2 p.nm wr HBw.out hg hE hma)
                have HNx := Lib.hid (show evBs p.nm B = evL bs (L.take (k + 1)) by rw [evL_next bs L k p hp, hBe])
                have HA2 := Lib.hid hA2
                have hbl := HBk.out p hpm
                have hdm := HDm.out p hpm
                unfold blkB at hbl
                rw [Bool.or_eq_false_iff, Bool.or_eq_false_iff, decide_eq_false_iff_not] at hbl
                obtain ⟨hpn, hlc, how⟩ := hbl
                have q1 := (emp_no how).2.2
                obtain ⟨b, ob, rfl, hb, hc⟩ := HL3.out (by rw [Ht.out]; omega)
                have HC0p := Lib.hid (show V3.cell? ⟨b, ob + k * 20, none⟩ = some (.string p.nm) from hc k p hp 0 (by decide))
                have HC16 := Lib.hid (show V3.cell? ⟨b, ob + k * 20 + 16, none⟩ = some (.string p.ow) from hc k p hp 16 (by decide))
                have HC17 := Lib.hid (show V3.cell? ⟨b, ob + k * 20 + 17, none⟩ = some (.bool false) by have h9 := hc k p hp 17 (by decide); rw [← hdm]; exact h9)
                have HC18 := Lib.hid (show V3.cell? ⟨b, ob + k * 20 + 18, none⟩ = some (.bool false) by have h9 := hc k p hp 18 (by decide); rw [← hpn]; exact h9)
                have HC19 := Lib.hid (show V3.cell? ⟨b, ob + k * 20 + 19, none⟩ = some (.bool false) by have h9 := hc k p hp 19 (by decide); rw [← hlc]; exact h9)
                have p0 : wr.cell? ⟨b, ob + k * 20, none⟩ = some (.string p.nm) := (hB.cell (p := ⟨b, ob + k * 20, none⟩) hb).trans HC0p.out
                have hbr := Nat.lt_of_lt_of_le hb hB.size
                clear hg hE hBe hA hB hp hpm hd hma hA2 hdm hpn hlc how hc
                go_upto_region 16 with (go_at_call 14; (with_reducible refine HXe.out.mono ?_); rintro e w6 ⟨⟨a6, k6, rfl, hg6⟩, hb6⟩; have HG6 := Lib.hid hg6; have HB6 := Lib.hid (HBk2.out.trans (hb6.mono HBk2.out.size)); clear hg6 hb6)
                all_goals
                  clear p0 hbr
                  have p16 : w6.cell? ⟨b, ob + k * 20 + 16, none⟩ = some (.string p.ow) := (HB6.out.cell (p := ⟨b, ob + k * 20 + 16, none⟩) hb).trans HC16.out
                  have p17 : w6.cell? ⟨b, ob + k * 20 + 17, none⟩ = some (.bool false) := (HB6.out.cell (p := ⟨b, ob + k * 20 + 17, none⟩) hb).trans HC17.out
                  have p18 : w6.cell? ⟨b, ob + k * 20 + 18, none⟩ = some (.bool false) := (HB6.out.cell (p := ⟨b, ob + k * 20 + 18, none⟩) hb).trans HC18.out
                  have p19 : w6.cell? ⟨b, ob + k * 20 + 19, none⟩ = some (.bool false) := (HB6.out.cell (p := ⟨b, ob + k * 20 + 19, none⟩) hb).trans HC19.out
                  have hbr := Nat.lt_of_lt_of_le hb HB6.out.size
                  go_wp2
                  go_roundw
                  case rel => exact ⟨k + 1, evBs p.nm B, a6, k6, by omega, by go_num, rfl, HG6.out, HEk.out.next p.nm, HNx.out, HA2.out, HB6.out⟩
                  case measure => simp [intOf]; omega
              · obtain rfl : k = t := by omega
                have hBe2 : B = evL bs L := by rw [hBe, List.take_of_length_le (by rw [Ht.out]; exact Nat.le_refl _)]
                have HBe := Lib.hid hBe2
                have HXm := Lib.hid (HX3.out c2 k2 wr HBw.out (hBe2 ▸ hg) (hBe2 ▸ hE.ln.trans HNn.out))
                have c0 : wr.cell? ⟨q, o + i * 10, none⟩ = some (.string nm) := (HBw.out.cell (p := ⟨q, o + i * 10, none⟩) hq).trans HC0.out
                have hqr := Nat.lt_of_lt_of_le hq HBw.out.size
                have hE9 := hE
                clear hg hE hBe hA hB hBe2
                go_wp2_with (go_at_call 13; (with_reducible refine HXm.out.mono ?_); rintro e w6 ⟨⟨a6, k6, rfl⟩, hb6⟩; have HG6 := Lib.hid (HGk.out.mono hb6); have HB6 := Lib.hid (HBw.out.trans (hb6.mono HBw.out.size)); clear hb6)
                clear c0 hqr HEk HGk HBw
                have HSp := Lib.hid (HW4.out B)
                have HSp0 := Lib.hid (HW4.out bs)
                have HSm := Lib.hid (fun b (hb : b ∈ l) (h0 : 0 ≤ spareB b bs) => show 0 ≤ spareB b B by rw [HBe.out]; exact spare_evL hb HEv.out h0)
                have HEb := Lib.hid hE9
                clear hE9
                go_loopw [15] (fun vj wy => ∃ j : Nat, j ≤ M ∧ vj = .int .i64 j ∧ Below w6.heap.size w6 wy) (fun vj _ => M - (intOf vj).toNat)
                case atStart => exact ⟨0, Nat.zero_le _, rfl, Below.refl _ _⟩
                case round =>
                  obtain ⟨j, hj, rfl, hB⟩ := hrel
                  have HBj := Lib.hid (HB6.out.trans (hB.mono HB6.out.size))
                  have HBr := Lib.hid hB
                  by_cases hjm : j < M
                  · obtain ⟨b, hb⟩ := mem_at (l := l) (k := j) (by rw [HM.out]; exact hjm)
                    have hbm := List.mem_of_getElem? hb
                    obtain ⟨qb, ob, rfl, hqb, hcb⟩ := (HD.out.mono HBj.out) (by rw [HM.out]; omega)
                    have HRb := Lib.hid (show wr.rangeAt qb (ob + j * 3) [.string b.nm, .slice b.ma b.mt.length b.mk', .int .i64 b.le] from fun i v hi => by
                      have hi3 : i < 3 := (List.getElem?_eq_some_iff.1 hi).1
                      rw [hcb j b hb i hi3]
                      exact hi)
                    have HS1 := Lib.hid (fun V hV => HSp0.out c kc b V hbm hV (HG.out.mono hV) HE0.out)
                    have HS2 := Lib.hid (fun V (hV : Below wr.heap.size wr V) => HSp.out c2 k2 b V hbm (HBj.out.trans (hV.mono HBj.out.size)) ((HG6.out.mono hB).mono hV) HEb.out)
                    have hsm := HSm.out b hbm
                    obtain ⟨s1, hs1⟩ : ∃ s, spareB b bs = s := ⟨_, rfl⟩
                    obtain ⟨s2, hs2⟩ : ∃ s, spareB b B = s := ⟨_, rfl⟩
                    simp only [hs1] at HS1 hsm
                    simp only [hs2] at HS2 hsm
                    have C : ((0 ≤ s1) = True ∧ (s2 < 0) = False) ∨ (0 ≤ s1) = False := by
                      rcases Decidable.em (0 ≤ s1) with h | h
                      · exact .inl ⟨eq_true h, eq_false (by have := hsm h; omega)⟩
                      · exact .inr (eq_false h)
                    have hbz := HBj.out.size
                    clear hB hb hbm hcb hs1 hs2 hsm
                    rcases C with ⟨g1, g2⟩ | g1
                    all_goals
                      go_wp2_with (first
                        | ((with_reducible refine at_load (ty := 53) ?_); refine load_cells rfl 53 (.tmp 122) rfl qb (ob + j * 3) rfl [.string b.nm, .slice b.ma b.mt.length b.mk', .int .i64 b.le] _ Try.underlying53 rfl (by kernel_rfl) HRb.out ?_)
                        | ((with_reducible refine at_load (ty := 53) ?_); refine load_cells rfl 53 (.tmp 130) rfl qb (ob + j * 3) rfl [.string b.nm, .slice b.ma b.mt.length b.mk', .int .i64 b.le] _ Try.underlying53 rfl (by kernel_rfl) HRb7.out ?_)
                        | (go_at_call 15; first | ((with_reducible refine (HS2.out _ HB7.out).mono ?_); rintro e w8 ⟨rfl, hb⟩; have HB8 := Lib.hid (HB7.out.trans (hb.mono HB7.out.size)); clear hb) | ((with_reducible refine (HS1.out _ HBj.out).mono ?_); rintro e w7 ⟨rfl, hb⟩; have HB7 := Lib.hid hb; have hbz7 := Nat.le_trans hbz hb.size; have HRb7 := Lib.hid (rangeAt_mono HRb.out hqb hb); have hqb7 := Nat.lt_of_lt_of_le hqb hb.size; clear hb)))
                      go_roundw
                      case rel => exact ⟨j + 1, by omega, by go_num, HBr.out.trans (Below.mono (by first | exact HB8.out | exact HB7.out) HBr.out.size)⟩
                      case measure => simp [intOf]; omega
                  · obtain rfl : j = M := by omega
                    clear hB
                    go_wp2
                    go_roundw
                    case rel => exact ⟨i + 1, by omega, by go_num, HBj.out⟩
                    case measure => simp [intOf]; omega
        · have q0 : (y == 0) = false := by simpa using hy
          have q1 : (y != 0) = true := by simpa using hy
          have q2 : (y = 0) = False := eq_false hy
          have q3 : ((t : Int) == 0) = false := by
            rw [beq_eq_false_iff_ne]
            intro h
            exact hy (HNo.out (by omega))
          clear HFr HNo HX1 HX2
          go_wp2
          go_roundw
          case rel => exact ⟨i + 1, by omega, by go_num, HB3.out⟩
          case measure => simp [intOf]; omega
      · obtain rfl : i = n := by omega
        clear hB
        go_wp2_with (go_at_call 8; (with_reducible refine (bknown_any _).mono ?_); rintro e w6 ⟨rfl, hb⟩; have HB6 := Lib.hid (HB.out.trans (hb.mono HB.out.size)); clear hb)
        go_ret
        exact ⟨rfl, HB6.out⟩
set_option maxRecDepth 100000 in
theorem walk {H : Type} {enc : TypeId × Value → H} {W : World} {base : Nat} {v u x : Value} {d e f : DataW H} {p q r : List MemPlace}
    (hv : Value.okWide Try.prog W .any base 22 v) (h : DataW.Trod enc Try.prog W 0 (fun _ => true) true 22 v d p)
    (hu : Value.okWide Try.prog W .any base 23 u) (h2 : DataW.Trod enc Try.prog W 0 (fun _ => true) true 23 u e q)
    (hx : Value.okWide Try.prog W .any base 38 x) (h3 : DataW.Trod enc Try.prog W 0 (fun _ => true) true 38 x f r) :
    Calls Try.prog 5 #[v, u, x] W fun e W' => e = .returned (.bool true) ∧ Below W.heap.size W W' := by
  obtain ⟨a, l, k, rfl, -, hF, hm, -, hI⟩ := open_macs hv h
  obtain ⟨c, l2, k2, rfl, -, hG, hm2, -, hI2⟩ := open_bnds hu h2
  obtain ⟨d, l3, k3, rfl, -, hD, -, hm3, hI3⟩ := open_bgs hx h3
  exact walk1 a k l c k2 l2 d k3 l3 W hF hG hD hI hI2 hI3 hm hm2 hm3

set_option maxRecDepth 100000 in
theorem lifted (os : Os) (started : os.Started) (H : Type) (enc : TypeId × Value → H) :
    ReturnsInHanded {} Try.checked os 5 .any (Rows.blockFreeSpec.pre6 enc Try.prog Try.f5 Rows.blockFreeRow.domain false) (Rows.blockFreeSpec.post enc Try.prog Try.f5 false true false false) := by
  refine returnsInHanded_of_change (C := Try.checked) Try.own started (by kernel_rfl) Try.func5
    (ChangeSpec.witness6 (enc := enc) (C := Try.checked) false ⟨#[], #[.slice none 0 0, .slice none 0 0, .slice none 0 0], []⟩ 8 (by kernel_rfl) (by kernel_rfl) (by kernel_rfl) (by kernel_rfl)) ?_
  intro W base args ds gs before hval hW _ _
  have hW' := hW
  obtain ⟨p, q, hA, hV, rfl, hfz, hnd⟩ := hW
  rw [Try.params5] at hA hval
  obtain ⟨v0, v1, v2, d0, d1, d2, p0, p1, p2, rfl, rfl, rfl, h0, h1, h2⟩ := trodAll_three hA
  refine (walk (hval 0 22 v0 rfl rfl) h0 (hval 1 23 v1 rfl rfl) h1 (hval 2 38 v2 rfl rfl) h2).mono fun e W' ⟨he, hb⟩ => ?_
  exact ⟨_, he, law_post Try.laidOut hW' rfl (by kernel_rfl) (by kernel_rfl) Try.underlying4 rfl rfl rfl hb⟩

theorem over : Rows.blockFreeRow.holds Try.pinned (OpenSpec.ofChange Rows.blockFreeSpec) :=
  OpenClaim.holds_of_wide 5 Try.f5 rfl rfl rfl rfl rfl rfl rfl ⟨rfl, rfl, rfl, rfl, rfl⟩ rfl rfl rfl rfl rfl (by kernel_rfl) Try.func5 (by kernel_rfl)
    (of_decide_eq_true (by kernel_rfl)) (by unfold Func.isWrapper; first | (rw [if_pos (by decide +kernel)]; kernel_rfl) | (rw [if_neg (by decide +kernel)]; exact ⟨rfl, rfl⟩))
    (fun os started H enc _ => lifted os started H enc)

/-- The statement. -/
theorem proved : Rows.BlockFreeSaid := over
end blockFree
end Go.Proofs.Ytkmhicoimgpdlaa
