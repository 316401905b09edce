/-
  Block, the document's way: Why.
-/
import Derived.Test.YtkmhicoimgpdlaaBt1
namespace Go.Proofs.Ytkmhicoimgpdlaa
open Go.RowKit
set_option linter.unusedVariables false
set_option linter.unusedSimpArgs false

/-- What stands of the pods on the way. -/
structure EvW (bs B : List Bd) : Prop where
  ln : B.length = bs.length
  bo : BO B
  mm : ∀ x ∈ B, ∃ y ∈ bs, x.p = y.p
theorem EvW.next {bs B : List Bd} (h : EvW bs B) (nm : ByteArray) : EvW bs (evBs nm B) :=
  ⟨(ev_len nm B).trans h.ln, h.bo.ev nm, fun x hx => by
    obtain ⟨y, hy, e⟩ := ev_mem nm B x hx
    obtain ⟨z, hz, e2⟩ := h.mm y hy
    exact ⟨z, hz, e.trans e2⟩⟩
theorem blkB_cases (p : Pd) : (p.pn = true ∧ blkB p = true) ∨ (p.pn = false ∧ p.lc = true ∧ blkB p = true) ∨ (p.pn = false ∧ p.lc = false ∧ p.ow.toList.isEmpty = true ∧ blkB p = true) ∨ (p.pn = false ∧ p.lc = false ∧ p.ow.toList.isEmpty = false ∧ blkB p = false) := by
  unfold blkB
  cases p.pn
  · cases p.lc
    · by_cases h : p.ow = emp
      · exact .inr (.inr (.inl ⟨rfl, rfl, (emp_yes h).2.2, by rw [decide_eq_true h]; rfl⟩))
      · exact .inr (.inr (.inr ⟨rfl, rfl, (emp_no h).2.2, by rw [decide_eq_false h]; rfl⟩))
    · exact .inr (.inl ⟨rfl, rfl, rfl⟩)
  · exact .inl ⟨rfl, rfl⟩
set_option maxRecDepth 100000 in
set_option maxHeartbeats 16000000 in
theorem rwhy_any (d c : Option Addr) (kd kc : Nat) (l : List Bg) (bs : List Bd) (nm : ByteArray) (w : World) (hD : BA w d l) (hG : BndL w c bs) (hI : ∀ x ∈ bs, PodAt w x.p) (hO : BO bs) (hn : ¬ nm = emp) :
    Calls Try.prog 16 #[.slice c bs.length kc, .slice d l.length kd, .string nm] w fun e w' => e = .returned (.tuple #[.string (whyB l bs nm).1, .int .i64 (whyB l bs nm).2]) ∧ Below w.heap.size w w' := by
  have hl := hO.ln
  have HMv := Lib.hid (rmovable_any c kc bs nm w hG (by omega) hn)
  have hlm := movL_len bs nm
  have hwb : whyB l bs nm = if blkE (movL bs nm) = 0 then evA l bs (movL bs nm) else (blkN (movL bs nm), blkE (movL bs nm)) := rfl
  obtain ⟨R, hR⟩ : ∃ R, whyB l bs nm = R := ⟨_, rfl⟩
  obtain ⟨L, hL⟩ : ∃ L, movL bs nm = L := ⟨_, rfl⟩
  obtain ⟨N, hN⟩ : ∃ N, bs.length = N := ⟨_, rfl⟩
  obtain ⟨M, hM⟩ : ∃ M, l.length = M := ⟨_, rfl⟩
  obtain ⟨n, hnl⟩ : ∃ n, L.length = n := ⟨_, rfl⟩
  rw [hL] at HMv hlm hwb
  rw [hR] at hwb ⊢
  have HEv := Lib.hid (fun (B : List Bd) (c' : Option Addr) (kc' : Nat) (x : ByteArray) V (hV : Below w.heap.size w V) (hB : BndL V c' B) (hE : EvW bs B) =>
    show ((mayE l B x = 0 → Calls Try.prog 14 #[.slice d M kd, .slice c' N kc', .string x] V fun e w' => (∃ a k, e = .returned (.tuple #[.slice a N k, .int .i64 0]) ∧ BndL w' a (evBs x B)) ∧ Below V.heap.size V w') ∧ (¬ mayE l B x = 0 → Calls Try.prog 14 #[.slice d M kd, .slice c' N kc', .string x] V fun e w' => e = .returned (.tuple #[.slice none 0 0, .int .i64 (mayE l B x)]) ∧ Below V.heap.size V w')) from by
      have hBI : ∀ x ∈ B, PodAt V x.p := fun x hx => by
        obtain ⟨y, hy, e⟩ := hE.mm x hx
        rw [e]
        exact (hI y hy).mono hV
      refine ⟨fun h => ?_, fun h => ?_⟩
      · have h9 := revict_yes d c' kd kc' l B x V (hD.mono hV) hB hBI hE.bo h
        rw [hE.ln, hM, hN] at h9
        exact h9
      · have h9 := revict_no d c' kd kc' l B x V (hD.mono hV) hB hBI hE.bo h
        rw [hE.ln, hM, hN] at h9
        exact h9)
  have HE0 := Lib.hid (show EvW bs bs from ⟨rfl, hO, fun x hx => ⟨x, hx, rfl⟩⟩)
  have HG := Lib.hid hG
  have Hn := Lib.hid hnl
  have HRw := Lib.hid hwb
  have hn9 : n ≤ 1000 := by omega
  rw [hN] at HMv ⊢
  rw [hM]
  clear hD hG hI hO hn hL hN hM hR hwb hnl hl hlm
  go_enter Try.func16, Try.ntmps16
  go_wp2_with (go_at_call 17; (with_reducible refine HMv.out.mono ?_); rintro e w2 ⟨⟨v, rfl, hv⟩, hb⟩; obtain ⟨al, kl, rfl, -, hrl⟩ := IsL.of_own prow_len (by decide) hv; have HL2 := Lib.hid hrl; have HB2 := Lib.hid hb; clear hb hv hrl; rw [Hn.out])
  obtain ⟨V2, hV2⟩ : ∃ V2, V2 = w2 := ⟨_, rfl⟩
  rw [← hV2] at HL2 HB2 ⊢
  clear hV2
  go_loopw [9] (fun vi wr => ∃ k : Nat, k ≤ n ∧ vi = .int .i64 k ∧ (L.take k).any blkB = false ∧ Below V2.heap.size V2 wr) (fun vi _ => n - (intOf vi).toNat)
  case atStart => exact ⟨0, Nat.zero_le _, rfl, rfl, Below.refl _ _⟩
  case round =>
    obtain ⟨k, hk, rfl, hE, hB⟩ := hrel
    have HB := Lib.hid hB
    have HE := Lib.hid hE
    by_cases hlt : k < n
    · obtain ⟨p, hp⟩ := mem_at (l := L) (k := k) (by rw [Hn.out]; exact hlt)
      obtain ⟨b, o, rfl, hb, hc⟩ := (HL2.out.mono hB) (by rw [Hn.out]; omega)
      have c0 : wr.cell? ⟨b, o + k * 20, none⟩ = some (.string p.nm) := hc k p hp 0 (by decide)
      have c16 : wr.cell? ⟨b, o + k * 20 + 16, none⟩ = some (.string p.ow) := hc k p hp 16 (by decide)
      have c18 : wr.cell? ⟨b, o + k * 20 + 18, none⟩ = some (.bool p.pn) := hc k p hp 18 (by decide)
      have c19 : wr.cell? ⟨b, o + k * 20 + 19, none⟩ = some (.bool p.lc) := hc k p hp 19 (by decide)
      have HYes := Lib.hid (fun (h : blkB p = true) => show R = (p.nm, 22) by
        have h9 := blk_at hp hE h
        rw [HRw.out]
        unfold blkE blkN
        rw [h9]
        exact if_neg (show ¬ (22 : Int) = 0 by decide))
      have HNo := Lib.hid (fun (h : blkB p = false) => show (L.take (k + 1)).any blkB = false from Lb.any_take1 hp h hE)
      have C := blkB_cases p
      generalize p.pn = pn at c18 C
      generalize p.lc = lc at c19 C
      clear hE hB hc hp
      rcases C with ⟨rfl, h⟩ | ⟨rfl, rfl, h⟩ | ⟨rfl, rfl, q1, h⟩ | ⟨rfl, rfl, q1, h⟩
      · have HRe := Lib.hid (HYes.out h)
        clear HYes HNo h
        go_wp2
        refine bodyPost_ret (v := .tuple #[.string p.nm, .int .i64 22]) (by simp [results, Try.results16, go_sem]) rfl ⟨by rw [HRe.out], HB2.out.trans (HB.out.mono HB2.out.size)⟩
      · have HRe := Lib.hid (HYes.out h)
        clear HYes HNo h
        go_wp2
        refine bodyPost_ret (v := .tuple #[.string p.nm, .int .i64 22]) (by simp [results, Try.results16, go_sem]) rfl ⟨by rw [HRe.out], HB2.out.trans (HB.out.mono HB2.out.size)⟩
      · have HRe := Lib.hid (HYes.out h)
        clear HYes HNo h
        go_wp2
        refine bodyPost_ret (v := .tuple #[.string p.nm, .int .i64 22]) (by simp [results, Try.results16, go_sem]) rfl ⟨by rw [HRe.out], HB2.out.trans (HB.out.mono HB2.out.size)⟩
      · have HNx := Lib.hid (HNo.out h)
        clear HYes HNo h
        go_wp2
        go_roundw
        case rel => exact ⟨k + 1, by omega, by go_num, HNx.out, HB.out⟩
        case measure => simp [intOf]; omega
    · obtain rfl : k = n := by omega
      have HR2 := Lib.hid (show R = evA l bs L by
        have h9 : L.any blkB = false := by
          have h8 := hE
          rw [List.take_of_length_le (by rw [Hn.out]; exact Nat.le_refl _)] at h8
          exact h8
        have h0 : blkE L = 0 := by
          unfold blkE
          have h7 : L.find? blkB = none := by
            rw [List.find?_eq_none]
            rw [List.any_eq_false] at h9
            exact h9
          rw [h7]
        rw [HRw.out, if_pos h0])
      have HL3 := Lib.hid (HL2.out.mono hB)
      have HB3 := Lib.hid (HB2.out.trans (hB.mono HB2.out.size))
      clear hE hB HE HB HRw HL2 HB2
      go_wp2
      obtain ⟨V3, hV3⟩ : ∃ V3, V3 = wr := ⟨_, rfl⟩
      rw [← hV3] at HL3 HB3 ⊢
      clear hV3
      go_loopw [0, 10] (fun vn vk wy => ∃ (j : Nat) (B : List Bd) (c2 : Option Addr) (k2 : Nat), j ≤ k ∧ vk = .int .i64 j ∧ vn = .slice c2 N k2 ∧ BndL wy c2 B ∧ EvW bs B ∧ R = evA l B (L.drop j) ∧ Below V3.heap.size V3 wy) (fun _ vk _ => k - (intOf vk).toNat)
      case atStart => exact ⟨0, bs, c, kc, Nat.zero_le _, rfl, rfl, HG.out.mono HB3.out, HE0.out, HR2.out, Below.refl _ _⟩
      case round =>
        obtain ⟨j, B, c2, k2, hj, rfl, rfl, hg, hE, hA, hB⟩ := hrel
        have HBj := Lib.hid hB
        have HEk := Lib.hid hE
        have HBw := Lib.hid (HB3.out.trans (hB.mono HB3.out.size))
        by_cases hjk : j < k
        · obtain ⟨p, hp⟩ := mem_at (l := L) (k := j) (by rw [Hn.out]; exact hjk)
          obtain ⟨b, o, rfl, hb, hc⟩ := HL3.out (by rw [Hn.out]; omega)
          have HC0 := Lib.hid (show V3.cell? ⟨b, o + j * 20, none⟩ = some (.string p.nm) from hc j p hp 0 (by decide))
          have c0 : wr.cell? ⟨b, o + j * 20, none⟩ = some (.string p.nm) := (hB.cell (p := ⟨b, o + j * 20, none⟩) hb).trans HC0.out
          have hbr := Nat.lt_of_lt_of_le hb hB.size
          have hd : L.drop j = p :: L.drop (j + 1) := by
            obtain ⟨h1, h2⟩ := List.getElem?_eq_some_iff.1 hp
            rw [List.drop_eq_getElem_cons h1, h2]
          rw [hd] at hA
          obtain ⟨hy, hno⟩ := HEv.out B c2 k2 p.nm wr HBw.out hg hE
          by_cases he : mayE l B p.nm = 0
          · have HA2 := Lib.hid (show R = evA l (evBs p.nm B) (L.drop (j + 1)) from hA.trans (if_pos he))
            have HXe := Lib.hid (hy he)
            clear hg hE hA hB hp hc hd hy hno he
            go_wp2_with (go_at_call 14; (with_reducible refine HXe.out.mono ?_); rintro e w6 ⟨⟨a6, k6, rfl, hg6⟩, hb6⟩; have HG6 := Lib.hid hg6; have HB6 := Lib.hid (HBj.out.trans (hb6.mono HBj.out.size)); clear hg6 hb6)
            go_roundw
            case rel => exact ⟨j + 1, evBs p.nm B, a6, k6, by omega, by go_num, rfl, HG6.out, HEk.out.next p.nm, HA2.out, HB6.out⟩
            case measure => simp [intOf]; omega
          · have HA2 := Lib.hid (show R = (p.nm, mayE l B p.nm) from hA.trans (if_neg he))
            have HXe := Lib.hid (hno he)
            obtain ⟨E, hEE⟩ : ∃ E, mayE l B p.nm = E := ⟨_, rfl⟩
            rw [hEE] at HA2 HXe he
            have q0 : (E == 0) = false := by simpa using he
            have q1 : (E != 0) = true := by simpa using he
            have q2 : (E = 0) = False := eq_false he
            clear hg hE hA hB hp hc hd hy hno hEE
            go_wp2_with (go_at_call 14; (with_reducible refine HXe.out.mono ?_); rintro e w6 ⟨rfl, hb6⟩; have HB6 := Lib.hid (HBw.out.trans (hb6.mono HBw.out.size)); have d0 : w6.cell? ⟨b, o + j * 20, none⟩ = some (.string p.nm) := ((HBj.out.trans (hb6.mono HBj.out.size)).cell (p := ⟨b, o + j * 20, none⟩) hb).trans HC0.out; have hbr6 := Nat.lt_of_lt_of_le hbr hb6.size; clear hb6 c0)
            refine bodyPost_ret (v := .tuple #[.string p.nm, .int .i64 E]) (by simp [results, Try.results16, go_sem]) rfl ⟨by rw [HA2.out], HB6.out⟩
        · obtain rfl : j = k := by omega
          have HA2 := Lib.hid (show R = (emp, 0) by rw [hA, List.drop_of_length_le (by rw [Hn.out]; exact Nat.le_refl _)]; rfl)
          clear hg hE hA hB
          go_wp2
          refine bodyPost_ret (v := .tuple #[.string emp, .int .i64 0]) (by simp [results, Try.results16, go_sem]; rfl) rfl ⟨by rw [HA2.out], HBw.out⟩
end Go.Proofs.Ytkmhicoimgpdlaa
