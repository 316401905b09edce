/-
  The document's Zones.
-/
import Derived.Test.YthbpnfpalcgfeaaGreatFrC
import Derived.Test.YthbpnfpalcgfeaaGreatFrP
namespace Go.Proofs.YthbpnfpalcgfeaaGreat
open Go.RowKit
set_option linter.unusedVariables false
set_option linter.unusedSimpArgs false

def zT (L : List ByteArray) (g : Bool) (z : ByteArray) (j : Nat) : Bool := g && !(L.take j).any (strB z)
theorem zT_next {L : List ByteArray} {g : Bool} {z y : ByteArray} {j : Nat} (h : L[j]? = some y) : zT L g z (j + 1) = (zT L g z j && !decide (z = y)) := by
  unfold zT
  rw [List.take_add_one, h, List.any_append]
  show (g && !((L.take j).any (strB z) || (decide (z = y) || false))) = _
  cases g <;> cases (L.take j).any (strB z) <;> cases decide (z = y) <;> rfl
set_option maxRecDepth 100000 in
set_option maxHeartbeats 8000000 in
theorem refzones_any (a : Option Addr) (ka : Nat) (ms : List Mac) (w : World) (hF : MacL w a ms) (hI : ∀ m ∈ ms, MacIn w m) (hs : ∀ m ∈ ms, m.labs.length ≤ maxLen) (hl : ms.length ≤ 1000000) :
    Calls Tryz.prog 107 #[.slice a ms.length ka] w (GivesT w (zonesY ms)) := by
  obtain ⟨n, hn⟩ : ∃ n, ms.length = n := ⟨_, rfl⟩
  have HN := Lib.hid hn
  have HF := Lib.hid hF
  have HG := Lib.hid (fun m (hm : m ∈ ms) V (hV : Below w.heap.size w V) => Lb.refget_any m.la m.lk m.labs zoneT V (((hI m hm).mono hV).here.1) (hs m hm))
  rw [hn] at hl ⊢
  clear hn hF hI hs
  obtain ⟨i0, hi, hz0, hz1, hz2⟩ := info_parts Tryz.info9
  have Hi := Lib.hid hi
  have Hz0 := Lib.hid hz0
  have Hz1 := Lib.hid hz1
  have Hz2 := Lib.hid hz2
  clear hi hz0 hz1 hz2
  go_enter Tryz.func107, Tryz.ntmps107
  go_wp2
  go_loopw [3, 4] (fun vo vi wr => ∃ (k : Nat) (L : List ByteArray), k ≤ n ∧ vi = .int .i64 k ∧ L = zonesY (ms.take k) ∧ L.length ≤ k ∧ wr.ownsRow w.heap.size 9 1 vo L.length (L.flatMap scs) ∧ Below w.heap.size w wr) (fun _ vi _ => n - (intOf vi).toNat)
  case atStart => exact ⟨0, [], Nat.zero_le _, rfl, rfl, Nat.le_refl _, World.ownsRow_nil _ _ _ _, Below.refl _ _⟩
  case round =>
    obtain ⟨k, L, hk, rfl, hE, hLk, hO, hB⟩ := hrel
    have HE := Lib.hid hE
    have HB := Lib.hid hB
    have HO := Lib.hid hO
    have hbz := hB.size
    obtain ⟨ao, ko, rfl, -, hT⟩ := IsL.of_own scs_len (by decide) hO
    have HT := Lib.hid hT
    by_cases hlt : k < n
    · obtain ⟨m, hm⟩ := mem_at (l := ms) (k := k) (by rw [HN.out]; exact hlt)
      obtain ⟨b, o, rfl, hb, hc⟩ := (HF.out.mono hB) (by rw [HN.out]; omega)
      have c7 : wr.cell? ⟨b, o + k * 10 + 7, none⟩ = some (.slice m.la m.labs.length m.lk) := hc k m hm 7 (by decide)
      have c9 : wr.cell? ⟨b, o + k * 10 + 9, none⟩ = some (.bool m.rd) := hc k m hm 9 (by decide)
      have HGm := Lib.hid (fun V hV => HG.out m (List.mem_of_getElem? hm) V hV)
      obtain ⟨nl, hnl⟩ : ∃ nl, L.length = nl := ⟨_, rfl⟩
      obtain ⟨z, hz⟩ : ∃ z, Lb.getV m.labs zoneT = z := ⟨_, rfl⟩
      obtain ⟨g, hg⟩ : ∃ g, Lb.getB m.labs zoneT = g := ⟨_, rfl⟩
      obtain ⟨rd, hrd⟩ : ∃ r, m.rd = r := ⟨_, rfl⟩
      have hnx : zonesY (ms.take (k + 1)) = if (zT L g z nl && rd) = true then L ++ [z] else L := by
        rw [zonesY_next hm, ← hE]
        unfold zoneA zT
        rw [hz, hg, hrd, List.take_of_length_le (Nat.le_of_eq hnl)]
        cases g <;> cases rd <;> cases L.any (strB z) <;> rfl
      rw [hz, hg] at HGm
      rw [hrd] at c9
      unfold zoneT at HGm
      have Hnl := Lib.hid hnl
      have HNX := Lib.hid hnx
      rw [hnl] at hLk
      clear hE hO hB hc hm hT hz hg hrd hnx hnl
      rw [Hnl.out]
      go_upto_region 6 with (go_at_call 102; (with_reducible refine (HGm.out _ HB.out).mono ?_); rintro e w3 ⟨rfl, hb3⟩; have HB3 := Lib.hid (HB.out.trans (hb3.mono hbz)); have hbz3 := Nat.le_trans hbz hb3.size; have HO3 := Lib.hid (own_kept HO.out hb3); have HT3 := Lib.hid (HT.out.mono hb3); have d9 : w3.cell? ⟨b, o + k * 10 + 9, none⟩ = some (.bool rd) := (hb3.cell (p := ⟨b, o + k * 10 + 9, none⟩) hb).trans c9; have hb9 : b < w3.heap.size := Nat.lt_of_lt_of_le hb hb3.size; clear hb3 c7 c9 hb)
      obtain ⟨V3, hV3⟩ : ∃ V3, V3 = w3 := ⟨_, rfl⟩
      rw [← hV3] at HB3 HO3 HT3 d9 hbz3 hb9 ⊢
      clear hV3 HB HO HT HGm
      go_wp2
      go_loopw [6, 7] (fun vs vj wy => ∃ j : Nat, j ≤ nl ∧ vj = .int .i64 j ∧ vs = .bool (zT L g z j) ∧ wy = V3) (fun _ vj _ => nl - (intOf vj).toNat)
      case atStart => exact ⟨0, Nat.zero_le _, rfl, by cases g <;> rfl, rfl⟩
      case round =>
        obtain ⟨j, hj, rfl, rfl, rfl⟩ := hrel
        by_cases hlj : j < nl
        · obtain ⟨y, hy⟩ := mem_at (l := L) (k := j) (by rw [Hnl.out]; exact hlj)
          obtain ⟨q, o2, rfl, hq, hc⟩ := HT3.out (by rw [Hnl.out]; omega)
          have c0 : wr.cell? ⟨q, o2 + j, none⟩ = some (.string y) := by
            have h9 := hc j y hy 0 (by decide)
            rw [Nat.mul_one] at h9
            exact h9
          have hn2 := zT_next (g := g) (z := z) hy
          obtain ⟨t, ht⟩ : ∃ t, zT L g z j = t := ⟨_, rfl⟩
          rw [ht] at hn2 ⊢
          clear hc hy ht
          cases t with
          | false =>
            have HNy := Lib.hid (show zT L g z (j + 1) = false by rw [hn2]; rfl)
            clear hn2
            go_wp2
            go_roundw
            case rel => exact ⟨j + 1, by omega, by go_num, by rw [HNy.out], by trivial⟩
            case measure => simp [intOf]; omega
          | true =>
            by_cases he : y = z
            · have q1 := str_yes he
              have HNy := Lib.hid (show zT L g z (j + 1) = false by rw [hn2, decide_eq_true he.symm]; rfl)
              clear hn2 he
              go_wp2
              go_roundw
              case rel => exact ⟨j + 1, by omega, by go_num, by rw [HNy.out], by trivial⟩
              case measure => simp [intOf]; omega
            · have q1 := str_no he
              have HNy := Lib.hid (show zT L g z (j + 1) = true by rw [hn2, decide_eq_false (fun e => he e.symm)]; rfl)
              clear hn2 he
              go_wp2
              go_roundw
              case rel => exact ⟨j + 1, by omega, by go_num, by rw [HNy.out], by trivial⟩
              case measure => simp [intOf]; omega
        · obtain rfl : j = nl := by omega
          have hnx := HNX.out
          clear HNX
          obtain ⟨t, ht⟩ : ∃ t, zT L g z j = t := ⟨_, rfl⟩
          rw [ht] at hnx ⊢
          clear ht
          cases t with
          | false =>
            have HNx := Lib.hid (show L = zonesY (ms.take (k + 1)) by rw [hnx]; rfl)
            clear hnx
            go_wp2
            go_roundw
            case rel => exact ⟨k + 1, L, by omega, by go_num, HNx.out, by rw [Hnl.out]; omega, by rw [Hnl.out]; have h9 := HO3.out; rw [Hnl.out] at h9; exact h9, HB3.out⟩
            case measure => simp [intOf]; omega
          | true =>
            cases rd with
            | false =>
              have HNx := Lib.hid (show L = zonesY (ms.take (k + 1)) by rw [hnx]; rfl)
              clear hnx
              go_wp2
              go_roundw
              case rel => exact ⟨k + 1, L, by omega, by go_num, HNx.out, by rw [Hnl.out]; omega, by rw [Hnl.out]; have h9 := HO3.out; rw [Hnl.out] at h9; exact h9, HB3.out⟩
              case measure => simp [intOf]; omega
            | true =>
              have HNx := Lib.hid (show L ++ [z] = zonesY (ms.take (k + 1)) by rw [hnx]; rfl)
              have HO4 := Lib.hid (show wr.ownsRow w.heap.size 9 1 (.slice ao j ko) j (L.flatMap scs) by have h9 := HO3.out; rw [Hnl.out] at h9; exact h9)
              clear hnx HO3
              go_wp2_with (at_builtin; refine wpList_append_src rfl (.tmp 46) (.tmp 48) 39 rfl w.heap.size 9 i0 _ 1 16 Tryz.underlying39 Hi.out Hz0.out Hz1.out Hz2.out rfl (by decide) _ j (L.flatMap scs) rfl (HO4.out.alloc _) (some ⟨wr.heap.size, 0, none⟩) 1 1 (scs z) rfl rfl (fun q e => by injection e with e; rw [← e]; exact news_at _ _ _) (fun e => by cases e) (scs_one z) (by unfold maxLen; omega) (by omega) (by simp; omega) ?_; intro v6 w6 hown6 hgrow6; obtain ⟨a6, k6, rfl⟩ := own_sl hown6; have HB6 := Lib.hid (own_below (HO4.out.alloc _) (HB3.out.alloc hbz3 _) (by simp; omega) hgrow6); have HO6 := Lib.hid hown6; clear hown6 hgrow6)
              go_roundw
              case rel =>
                refine ⟨k + 1, L ++ [z], by omega, by go_num, HNx.out, by rw [List.length_append, Hnl.out]; show j + 1 ≤ _; omega, ?_, HB6.out⟩
                rw [List.length_append, List.flatMap_append, Hnl.out]
                have h9 := HO6.out
                simpa using h9
              case measure => simp [intOf]; omega
    · obtain rfl : k = n := by omega
      have hL : L = zonesY ms := by rw [hE, List.take_of_length_le (by rw [HN.out]; exact Nat.le_refl _)]
      have HL := Lib.hid hL
      clear hE hO hB hL
      go_wp2
      refine bodyPost_ret (v := .slice ao L.length ko) (by simp [results, Tryz.results107, go_sem]) rfl ⟨⟨_, rfl, by rw [← HL.out]; exact HO.out⟩, HB.out⟩
end Go.Proofs.YthbpnfpalcgfeaaGreat
