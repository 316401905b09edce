/-
  Yards: Zones.
-/
import Derived.Test.YthbpnfpalcgfeaaYd7
namespace Go.Proofs.Ythbpnfpalcgfeaa
open Go.RowKit
set_option linter.unusedVariables false
set_option linter.unusedSimpArgs false

def zoneT : ByteArray := ⟨#[122, 111, 110, 101]⟩
def zoneA (out : List ByteArray) (m : Mac) : List ByteArray := if Lb.getB m.labs zoneT = true then (if m.rd = true then (if out.any (strB (Lb.getV m.labs zoneT)) = true then out else out ++ [Lb.getV m.labs zoneT]) else out) else out
/-- The zones there are. -/
def zonesY (ms : List Mac) : List ByteArray := ms.foldl zoneA []
theorem zonesY_next {ms : List Mac} {k : Nat} {m : Mac} (h : ms[k]? = some m) : zonesY (ms.take (k + 1)) = zoneA (zonesY (ms.take k)) m := by
  unfold zonesY
  rw [List.take_add_one, h, List.foldl_append]
  rfl
def GivesT (w : World) (L : List ByteArray) (e : Ending) (w' : World) : Prop := (∃ v, e = .returned v ∧ w'.ownsRow w.heap.size 9 1 v L.length (L.flatMap scs)) ∧ Below w.heap.size w w'
set_option maxRecDepth 100000 in
set_option maxHeartbeats 4000000 in
theorem zones_any (a : Option Addr) (ka : Nat) (ms : List Mac) (w : World) (hF : MacL w a ms) (hI : ∀ m ∈ ms, MacIn w m) (hs : ∀ m ∈ ms, m.labs.length ≤ maxLen) (hl : ms.length ≤ 1000000) :
    Calls Try.prog 44 #[.slice a ms.length ka] w (GivesT w (zonesY ms)) := by
  obtain ⟨n, hn⟩ : ∃ n, ms.length = n := ⟨_, rfl⟩
  have HN := Lib.hid hn
  have HF := Lib.hid hF
  have HG := Lib.hid (fun m (hm : m ∈ ms) V (hV : Below w.heap.size w V) => Lb.get_any m.la m.lk m.labs zoneT V (((hI m hm).mono hV).here.1) (hs m hm))
  rw [hn] at hl ⊢
  clear hn hF hI hs
  obtain ⟨i0, hi, hz0, hz1, hz2⟩ := info_parts Try.info9
  have Hi := Lib.hid hi
  have Hz0 := Lib.hid hz0
  have Hz1 := Lib.hid hz1
  have Hz2 := Lib.hid hz2
  clear hi hz0 hz1 hz2
  go_enter Try.func44, Try.ntmps44
  go_wp2
  go_loopw [3, 9] (fun vo vi wr => ∃ (k : Nat) (L : List ByteArray), k ≤ n ∧ vi = .int .i64 k ∧ L = zonesY (ms.take k) ∧ L.length ≤ k ∧ wr.ownsRow w.heap.size 9 1 vo L.length (L.flatMap scs) ∧ Below w.heap.size w wr) (fun _ vi _ => n - (intOf vi).toNat)
  case atStart => exact ⟨0, [], Nat.zero_le _, rfl, rfl, Nat.le_refl _, World.ownsRow_nil _ _ _ _, by (repeat' (first | with_reducible exact Below.refl _ _ | with_reducible assumption | with_reducible refine Below.drew ?_ | with_reducible refine below_drewN' ?_ _ | with_reducible refine Below.alloc ?_ ?_ _ | with_reducible refine Below.setCell ?_ ?_ _ | with_reducible refine below_step (by assumption) ?_ ?_ | omega | (simp; done) | (simp; omega)))⟩
  case round =>
    obtain ⟨k, L, hk, rfl, hE, hLk, hO, hB⟩ := hrel
    have HE := Lib.hid hE
    have HB := Lib.hid hB
    have HO := Lib.hid hO
    have hbz := hB.size
    obtain ⟨ao, ko, rfl, -, hT⟩ := IsL.of_own scs_len (by decide) hO
    have HT := Lib.hid hT
    by_cases hlt : k < n
    · obtain ⟨m, hm⟩ := mem_at (l := ms) (k := k) (by rw [HN.out]; exact hlt)
      obtain ⟨b, o, rfl, hb, hc⟩ := (HF.out.mono hB) (by rw [HN.out]; omega)
      have c7 : wr.cell? ⟨b, o + k * 10 + 7, none⟩ = some (.slice m.la m.labs.length m.lk) := hc k m hm 7 (by decide)
      have c9 : wr.cell? ⟨b, o + k * 10 + 9, none⟩ = some (.bool m.rd) := hc k m hm 9 (by decide)
      have hnx := zonesY_next hm
      have HGm := Lib.hid (fun V hV => HG.out m (List.mem_of_getElem? hm) V hV)
      rw [← hE] at hnx
      clear hE hO hB hc hm hT
      obtain ⟨nm, gp, r0, r1, r2, r3, r4, la, lk, labs, ta, tk, tnts, rd⟩ := m
      dsimp only [zoneA] at c7 c9 hnx HGm
      obtain ⟨z, hz⟩ : ∃ z, Lb.getV labs zoneT = z := ⟨_, rfl⟩
      obtain ⟨g, hg⟩ : ∃ g, Lb.getB labs zoneT = g := ⟨_, rfl⟩
      rw [hz, hg] at hnx HGm
      unfold zoneT at HGm
      clear hz hg
      cases g with
      | false =>
        rw [if_neg (by decide)] at hnx
        have HNx := Lib.hid hnx.symm
        clear hnx
        go_wp2_with (go_at_call 78; (with_reducible refine (HGm.out _ HB.out).mono ?_); rintro e w3 ⟨rfl, hb3⟩; have HB3 := Lib.hid (HB.out.trans (hb3.mono hbz)); have HO3 := Lib.hid (own_kept HO.out hb3); have HT3 := Lib.hid (HT.out.mono hb3); clear hb3)
        go_roundw
        case rel => exact ⟨k + 1, L, by omega, by go_num, HNx.out, by omega, HO3.out, HB3.out⟩
        case measure => simp [intOf]; omega
      | true =>
        rw [if_pos rfl] at hnx
        cases rd with
        | false =>
          rw [if_neg (by decide)] at hnx
          have HNx := Lib.hid hnx.symm
          clear hnx
          go_wp2_with (go_at_call 78; (with_reducible refine (HGm.out _ HB.out).mono ?_); rintro e w3 ⟨rfl, hb3⟩; have HB3 := Lib.hid (HB.out.trans (hb3.mono hbz)); have hbz3 := Nat.le_trans hbz hb3.size; have HO3 := Lib.hid (own_kept HO.out hb3); have HT3 := Lib.hid (HT.out.mono hb3); have d9 : w3.cell? ⟨b, o + k * 10 + 9, none⟩ = _ := (hb3.cell (p := ⟨b, o + k * 10 + 9, none⟩) hb).trans c9; clear hb3)
          go_roundw
          case rel => exact ⟨k + 1, L, by omega, by go_num, HNx.out, by omega, HO3.out, HB3.out⟩
          case measure => simp [intOf]; omega
        | true =>
          rw [if_pos rfl] at hnx
          have HCs := Lib.hid (fun V (h : TxtL V ao L) => Lb.containss_any ao ko L z V h (by omega))
          cases hv : L.any (strB z) with
          | true =>
            rw [hv, if_pos rfl] at hnx
            rw [hv] at HCs
            have HNx := Lib.hid hnx.symm
            clear hnx hv
            go_wp2_with (first | (go_at_call 78; (with_reducible refine (HGm.out _ HB.out).mono ?_); rintro e w3 ⟨rfl, hb3⟩; have HB3 := Lib.hid (HB.out.trans (hb3.mono hbz)); have hbz3 := Nat.le_trans hbz hb3.size; have HO3 := Lib.hid (own_kept HO.out hb3); have HT3 := Lib.hid (HT.out.mono hb3); have d9 : w3.cell? ⟨b, o + k * 10 + 9, none⟩ = _ := (hb3.cell (p := ⟨b, o + k * 10 + 9, none⟩) hb).trans c9; clear hb3) | (go_at_call 79; (with_reducible refine (HCs.out _ HT3.out).mono ?_); rintro e w4 ⟨rfl, hb4⟩; have HB4 := Lib.hid (HB3.out.trans (hb4.mono hbz3)); have HO4 := Lib.hid (own_kept HO3.out hb4); clear hb4))
            go_roundw
            case rel => exact ⟨k + 1, L, by omega, by go_num, HNx.out, by omega, HO4.out, HB4.out⟩
            case measure => simp [intOf]; omega
          | false =>
            rw [hv, if_neg (by decide)] at hnx
            rw [hv] at HCs
            have HNx := Lib.hid hnx.symm
            clear hnx hv
            go_wp2_with (first
              | (go_at_call 78; (with_reducible refine (HGm.out _ HB.out).mono ?_); rintro e w3 ⟨rfl, hb3⟩; have HB3 := Lib.hid (HB.out.trans (hb3.mono hbz)); have hbz3 := Nat.le_trans hbz hb3.size; have HO3 := Lib.hid (own_kept HO.out hb3); have HT3 := Lib.hid (HT.out.mono hb3); have d9 : w3.cell? ⟨b, o + k * 10 + 9, none⟩ = _ := (hb3.cell (p := ⟨b, o + k * 10 + 9, none⟩) hb).trans c9; clear hb3)
              | (go_at_call 79; (with_reducible refine (HCs.out _ HT3.out).mono ?_); rintro e w4 ⟨rfl, hb4⟩; have HB4 := Lib.hid (HB3.out.trans (hb4.mono hbz3)); have hbz4 := Nat.le_trans hbz3 hb4.size; have HO4 := Lib.hid (own_kept HO3.out hb4); clear hb4)
              | (at_builtin; refine wpList_append_src rfl (.tmp 35) (.tmp 37) 65 rfl w.heap.size 9 i0 _ 1 16 Try.underlying65 Hi.out Hz0.out Hz1.out Hz2.out rfl (by decide) _ L.length (L.flatMap scs) rfl (HO4.out.alloc _) (some ⟨w4.heap.size, 0, none⟩) 1 1 (scs z) rfl rfl (fun q e => by injection e with e; rw [← e]; exact news_at _ _ _) (fun e => by cases e) (scs_one z) (by unfold maxLen; omega) (by omega) (by simp; omega) ?_; intro v6 w6 hown6 hgrow6; obtain ⟨a6, k6, rfl⟩ := own_sl hown6; have HB6 := Lib.hid (own_below (HO4.out.alloc _) (HB4.out.alloc hbz4 _) (by simp; omega) hgrow6); have HO6 := Lib.hid hown6; clear hown6 hgrow6))
            go_roundw
            case rel =>
              refine ⟨k + 1, L ++ [z], by omega, by go_num, HNx.out, by rw [List.length_append]; show L.length + 1 ≤ _; omega, ?_, HB6.out⟩
              rw [List.length_append, List.flatMap_append]
              have h9 := HO6.out
              simpa using h9
            case measure => simp [intOf]; omega
    · obtain rfl : k = n := by omega
      have hL : L = zonesY ms := by rw [hE, List.take_of_length_le (by rw [HN.out]; exact Nat.le_refl _)]
      have HL := Lib.hid hL
      clear hE hO hB hL
      go_wp2
      refine bodyPost_ret (v := .slice ao L.length ko) (by simp [results, Try.results44, go_sem]) rfl ⟨⟨_, rfl, by rw [← HL.out]; exact HO.out⟩, HB.out⟩
end Go.Proofs.Ythbpnfpalcgfeaa
