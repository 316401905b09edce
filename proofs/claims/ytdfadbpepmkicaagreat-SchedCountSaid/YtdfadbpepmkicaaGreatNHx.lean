/-
  Yards: Used, Left, Zones.
-/
import Derived.Test.YtdfadbpepmkicaaGreatNEx
import Derived.Test.YtdfadbpepmkicaaGreatMGx
import Derived.Test.YtdfadbpepmkicaaGreatLabNBx
import Derived.Test.YtdfadbpepmkicaaGreatMBx
namespace Go.Proofs.YtdfadbpepmkicaaGreat
open Go.RowKit
set_option linter.unusedVariables false
set_option linter.unusedSimpArgs false
def findN : List ByteArray → ByteArray → Nat → Int
  | [], _, _ => -1
  | y :: l, x, k => if y = x then (k : Int) else findN l x (k + 1)
def twiceN (l : List ByteArray) : Bool := (List.range l.length).any fun i => decide (findN l (l.getD i emp) 0 < (i : Int))
theorem findN_at {l : List ByteArray} {x y : ByteArray} {k : Nat} (h : l[k]? = some y) : findN (l.drop k) x k = if y = x then (k : Int) else findN (l.drop (k + 1)) x (k + 1) := by
  obtain ⟨h1, h2⟩ := List.getElem?_eq_some_iff.1 h
  rw [List.drop_eq_getElem_cons h1, h2]
  rfl
theorem nm_at {ms : List Mac} {k : Nat} {m : Mac} (h : ms[k]? = some m) : (ms.map Mac.nm)[k]? = some m.nm := by rw [List.getElem?_map, h]; rfl
theorem str_yes {a b : ByteArray} (h : a = b) : (a.toList == b.toList) = true := by rw [h]; simp
theorem str_no {a b : ByteArray} (h : ¬ a = b) : (a.toList == b.toList) = false := by rw [beq_eq_false_iff_ne]; exact fun e => h ((str_inj _ _).1 e)
set_option maxRecDepth 100000 in
set_option maxHeartbeats 2000000 in
theorem find_any (a : Option Addr) (ka : Nat) (ms : List Mac) (nm : ByteArray) (w : World) (hF : MacL w a ms) (hl : ms.length ≤ 1000000) :
    Calls Tryz.prog 66 #[.slice a ms.length ka, .string nm] w fun e w' => e = .returned (.int .i64 (findN (ms.map Mac.nm) nm 0)) ∧ Below w.heap.size w w' := by
  obtain ⟨n, hn⟩ : ∃ n, ms.length = n := ⟨_, rfl⟩
  obtain ⟨N, hN⟩ : ∃ N, ms.map Mac.nm = N := ⟨_, rfl⟩
  have HN := Lib.hid hn
  have HM := Lib.hid hN
  have HL := Lib.hid (show N.length = n by rw [← hN, List.length_map, hn])
  obtain ⟨R, hR⟩ : ∃ R, findN N nm 0 = R := ⟨_, rfl⟩
  have HR := Lib.hid (show findN (N.drop 0) nm 0 = R from hR)
  have HF := Lib.hid hF
  rw [hn] at hl ⊢
  rw [hN, hR]
  clear hn hN hR hF
  go_enter Tryz.func66, Tryz.ntmps66
  go_wp2
  go_loopw [8] (fun vi wr => ∃ k : Nat, k ≤ n ∧ vi = .int .i64 k ∧ findN (N.drop k) nm k = R ∧ wr = w) (fun vi _ => n - (intOf vi).toNat)
  case atStart => exact ⟨0, Nat.zero_le _, rfl, HR.out, rfl⟩
  case round =>
    clear HR
    obtain ⟨k, hk, rfl, hE, rfl⟩ := hrel
    have HE := Lib.hid hE
    clear hE
    by_cases hlt : k < n
    · obtain ⟨m, hm⟩ := mem_at (l := ms) (k := k) (by rw [HN.out]; exact hlt)
      obtain ⟨b, o, rfl, hb, hc⟩ := HF.out (by rw [HN.out]; omega)
      have c0 : wr.cell? ⟨b, o + k * 10, none⟩ = some (.string (Mac.nm m)) := hc k m hm 0 (by decide)
      have hmN := nm_at hm
      rw [HM.out] at hmN
      obtain ⟨y, hy⟩ : ∃ y, Mac.nm m = y := ⟨_, rfl⟩
      rw [hy] at c0 hmN
      have HNx := Lib.hid ((findN_at (x := nm) hmN).symm.trans HE.out)
      clear hc hm hmN hy
      by_cases he : y = nm
      · have q := str_yes he
        obtain rfl : R = (k : Int) := by have := HNx.out; rw [if_pos he] at this; exact this.symm
        clear he
        go_wp2
        go_ret
        exact ⟨rfl, Below.refl _ _⟩
      · have q := str_no he
        have HNy := Lib.hid (show findN (N.drop (k + 1)) nm (k + 1) = R by have := HNx.out; rw [if_neg he] at this; exact this)
        clear he
        go_wp2
        go_roundw
        case rel => exact ⟨k + 1, by omega, by go_num, HNy.out, by trivial⟩
        case measure => simp [intOf]; omega
    · obtain rfl : k = n := by omega
      obtain rfl : R = -1 := by
        rw [← HE.out, List.drop_of_length_le (by rw [HL.out]; exact Nat.le_refl _)]
        rfl
      go_wp2
      go_ret
      exact ⟨rfl, Below.refl _ _⟩
def pnm (b : Bd) : ByteArray := b.p.nm
theorem pnm_at {bs : List Bd} {k : Nat} {m : Bd} (h : bs[k]? = some m) : (bs.map pnm)[k]? = some (pnm m) := by rw [List.getElem?_map, h]; rfl
def onB (N : List ByteArray) (b : Bd) : Bool := decide (b.on = emp) || decide (0 ≤ findN N b.on 0)
def okM (m : Mac) : Bool := !decide (m.nm = emp) && rightM m
def okBd (b : Bd) : Bool := rightP b.p
def checkY (ms : List Mac) (bs : List Bd) : Int :=
  if 200 < ms.length ∨ 400 < bs.length then 7
  else if ¬ (ms.all okM = true ∧ bs.all okBd = true) then 12
  else if twiceN (ms.map Mac.nm) = true ∨ twiceN (bs.map pnm) = true then 15
  else if ¬ bs.all (onB (ms.map Mac.nm)) = true then 16 else 0
def lightBd (b : Bd) : Bool := lightP b.p && decide (b.on.size ≤ 300)
def lightY (ms : List Mac) (bs : List Bd) : Bool := decide (ms.length ≤ 20) && decide (bs.length ≤ 40) && ms.all lightM && bs.all lightBd
theorem lightY_iff {ms : List Mac} {bs : List Bd} (h : lightY ms bs = true) : ms.length ≤ 20 ∧ bs.length ≤ 40 ∧ (∀ m ∈ ms, lightM m = true) ∧ (∀ b ∈ bs, lightP b.p = true ∧ b.on.size ≤ 300) := by
  unfold lightY at h
  simp only [Bool.and_eq_true, decide_eq_true_eq, List.all_eq_true] at h
  refine ⟨h.1.1.1, h.1.1.2, h.1.2, fun b hb => ?_⟩
  have := h.2 b hb
  unfold lightBd at this
  simpa using this
set_option maxRecDepth 100000 in
set_option maxHeartbeats 4000000 in
theorem lighty_any (a : Option Addr) (ka : Nat) (ms : List Mac) (c : Option Addr) (kc : Nat) (bs : List Bd) (w : World) (hF : MacL w a ms) (hG : BndL w c bs) (hA : ∀ m ∈ ms, MacIn w m) (hB : ∀ b ∈ bs, BndIn w b) (hl : ms.length ≤ maxLen) (hl2 : bs.length ≤ maxLen) :
    Calls Tryz.prog 27 #[.slice a ms.length ka, .slice c bs.length kc] w fun e w' => e = .returned (.bool (lightY ms bs)) ∧ Below w.heap.size w w' := by
  obtain ⟨n, hn⟩ : ∃ n, ms.length = n := ⟨_, rfl⟩
  obtain ⟨q, hq⟩ : ∃ q, bs.length = q := ⟨_, rfl⟩
  have HN := Lib.hid hn
  have HQ := Lib.hid hq
  obtain ⟨R, hR⟩ : ∃ R, lightY ms bs = R := ⟨_, rfl⟩
  have HR := Lib.hid hR
  have HC := Lib.hid (fun (m : Mac) (hm : m ∈ ms) (V : World) (hV : Below w.heap.size w V) => lightm_any m V ((hA m hm).here.mono hV))
  have HD := Lib.hid (fun (m : Bd) (hm : m ∈ bs) (V : World) (hV : Below w.heap.size w V) => lightp_any m.p V ((hB m hm).here.mono hV))
  have HF := Lib.hid hF
  have HG := Lib.hid hG
  unfold maxLen at hl hl2
  rw [hn] at hl ⊢
  rw [hq] at hl2 ⊢
  rw [hR]
  unfold lightY at hR
  rw [hn, hq] at hR
  clear hn hq hF hG hA hB
  by_cases h20 : n ≤ 20
  rotate_left
  · obtain rfl : R = false := by rw [← hR, decide_eq_false h20]; rfl
    have k1 : 20 < n := by omega
    clear hR h20
    go_enter Tryz.func27, Tryz.ntmps27
    go_wp2
    go_ret
    exact ⟨rfl, by (repeat' (first | with_reducible exact Below.refl _ _ | with_reducible assumption | with_reducible refine Below.drew ?_ | with_reducible refine below_drewN' ?_ _ | with_reducible refine Below.alloc ?_ ?_ _ | with_reducible refine Below.setCell ?_ ?_ _ | with_reducible refine below_step (by assumption) ?_ ?_ | omega | (simp; done) | (simp; omega)))⟩
  by_cases h40 : q ≤ 40
  rotate_left
  · obtain rfl : R = false := by rw [← hR, decide_eq_true h20, decide_eq_false h40]; rfl
    have k1 : ¬ 20 < n := by omega
    have k2 : 40 < q := by omega
    clear hR h20 h40
    go_enter Tryz.func27, Tryz.ntmps27
    go_wp2
    go_ret
    exact ⟨rfl, by (repeat' (first | with_reducible exact Below.refl _ _ | with_reducible assumption | with_reducible refine Below.drew ?_ | with_reducible refine below_drewN' ?_ _ | with_reducible refine Below.alloc ?_ ?_ _ | with_reducible refine Below.setCell ?_ ?_ _ | with_reducible refine below_step (by assumption) ?_ ?_ | omega | (simp; done) | (simp; omega)))⟩
  rw [decide_eq_true h20, decide_eq_true h40] at hR
  have hR : (ms.all lightM && bs.all lightBd) = R := hR
  have k1 : ¬ 20 < n := by omega
  have k2 : ¬ 40 < q := by omega
  have HRr := Lib.hid hR
  clear hR
  go_enter Tryz.func27, Tryz.ntmps27
  go_wp2
  go_loopw [5] (fun vi wr => ∃ k : Nat, k ≤ n ∧ vi = .int .i64 k ∧ (ms.take k).all lightM = true ∧ Below w.heap.size w wr) (fun vi _ => n - (intOf vi).toNat)
  case atStart => exact ⟨0, Nat.zero_le _, rfl, rfl, by (repeat' (first | with_reducible exact Below.refl _ _ | with_reducible assumption | with_reducible refine Below.drew ?_ | with_reducible refine below_drewN' ?_ _ | with_reducible refine Below.alloc ?_ ?_ _ | with_reducible refine Below.setCell ?_ ?_ _ | with_reducible refine below_step (by assumption) ?_ ?_ | omega | (simp; done) | (simp; omega)))⟩
  case round =>
    obtain ⟨k, hk, rfl, hE, hB⟩ := hrel
    have HE := Lib.hid hE
    have HB := Lib.hid hB
    have hbz := hB.size
    by_cases hlt : k < n
    · obtain ⟨m, hm⟩ := mem_at (l := ms) (k := k) (by rw [HN.out]; exact hlt)
      obtain ⟨b, o, rfl, hb, hc⟩ := (HF.out.mono hB) (by rw [HN.out]; omega)
      have hrg : wr.rangeAt b (o + k * 10) (mrow m) := fun j v hj => by rw [hc k m hm j (by have := (List.getElem?_eq_some_iff.1 hj).1; exact this)]; exact hj
      have HRg := Lib.hid hrg
      have Hm := Lib.hid hm
      have HCm := Lib.hid (fun V hV => HC.out m (List.mem_of_getElem? hm) V hV)
      obtain ⟨z, hz⟩ : ∃ z, lightM m = z := ⟨_, rfl⟩
      have HZ := Lib.hid hz
      rw [hz] at HCm
      obtain ⟨nm, gp, r0, r1, r2, r3, r4, la, lk, L, ta, tk, T, rd⟩ := m
      clear hE hB hc hm hz hrg
      cases z with
      | false =>
        obtain rfl : R = false := by rw [← HRr.out, all_bad (P := lightM) Hm.out HZ.out]; rfl
        go_wp2_with (first
          | ((with_reducible refine at_load (ty := 57) ?_); refine load_cells rfl 57 (.tmp 23) rfl b (o + k * 10) rfl [.string nm, .string gp, .int .i64 r0, .int .i64 r1, .int .i64 r2, .int .i64 r3, .int .i64 r4, .slice la L.length lk, .slice ta T.length tk, .bool rd] _ Tryz.underlying57 rfl (by kernel_rfl) HRg.out ?_)
          | (go_at_call 50; (with_reducible refine (HCm.out _ HB.out).mono ?_); rintro e w3 ⟨rfl, hb3⟩; have HB3 := Lib.hid (HB.out.trans (hb3.mono hbz)); clear hb3))
        go_ret
        exact ⟨rfl, HB3.out⟩
      | true =>
        have HE2 := Lib.hid (all_take1 (P := lightM) Hm.out HZ.out HE.out)
        go_wp2_with (first
          | ((with_reducible refine at_load (ty := 57) ?_); refine load_cells rfl 57 (.tmp 23) rfl b (o + k * 10) rfl [.string nm, .string gp, .int .i64 r0, .int .i64 r1, .int .i64 r2, .int .i64 r3, .int .i64 r4, .slice la L.length lk, .slice ta T.length tk, .bool rd] _ Tryz.underlying57 rfl (by kernel_rfl) HRg.out ?_)
          | (go_at_call 50; (with_reducible refine (HCm.out _ HB.out).mono ?_); rintro e w3 ⟨rfl, hb3⟩; have HB3 := Lib.hid (HB.out.trans (hb3.mono hbz)); clear hb3))
        go_roundw
        case rel => exact ⟨k + 1, by omega, by go_num, HE2.out, HB3.out⟩
        case measure => simp [intOf]; omega
    · obtain rfl : k = n := by omega
      have HRq := Lib.hid (show bs.all lightBd = R by rw [← HRr.out, all_done (P := lightM) HN.out HE.out]; rfl)
      obtain ⟨w5, h5⟩ : ∃ w5, w5 = wr := ⟨_, rfl⟩
      subst h5
      clear hE hB
      go_wp2
      go_loopw [6] (fun vi wr => ∃ k : Nat, k ≤ q ∧ vi = .int .i64 k ∧ (bs.take k).all lightBd = true ∧ Below w.heap.size w wr) (fun vi _ => q - (intOf vi).toNat)
      case atStart => exact ⟨0, Nat.zero_le _, rfl, rfl, HB.out⟩
      case round =>
        clear HB HE hbz
        obtain ⟨k, hk, rfl, hE, hB⟩ := hrel
        have HE := Lib.hid hE
        have HB := Lib.hid hB
        have hbz := hB.size
        by_cases hlt : k < q
        · obtain ⟨m, hm⟩ := mem_at (l := bs) (k := k) (by rw [HQ.out]; exact hlt)
          obtain ⟨b, o, rfl, hb, hc⟩ := (HG.out.mono hB) (by rw [HQ.out]; omega)
          have hrg : wr.rangeAt b (o + k * 21) (prow m.p) := fun j v hj => by
            have hj20 : j < 20 := (List.getElem?_eq_some_iff.1 hj).1
            rw [hc k m hm j (by omega)]
            show (prow m.p ++ [.string m.on])[j]? = some v
            rw [List.getElem?_append_left hj20]
            exact hj
          have HRg := Lib.hid hrg
          have c20 : wr.cell? ⟨b, o + k * 21 + 20, none⟩ = some (.string m.on) := hc k m hm 20 (by decide)
          have Hm := Lib.hid hm
          have HCm := Lib.hid (fun V hV => HD.out m (List.mem_of_getElem? hm) V hV)
          obtain ⟨z, hz⟩ : ∃ z, lightP m.p = z := ⟨_, rfl⟩
          have HZ := Lib.hid (show lightBd m = (z && decide (m.on.size ≤ 300)) from by rw [← hz]; rfl)
          rw [hz] at HCm
          obtain ⟨p, on⟩ := m
          dsimp only at HRg HCm c20 HZ
          obtain ⟨ag, hag⟩ : ∃ ag, (prow p).toArray = ag := ⟨_, rfl⟩
          rw [hag] at HCm
          have HAg := Lib.hid hag
          clear hE hc hm hz hrg hag
          cases z with
          | false =>
            obtain rfl : R = false := by rw [← HRq.out]; exact all_bad (P := lightBd) Hm.out HZ.out
            go_wp2_with (first
              | ((with_reducible refine at_load (ty := 40) ?_); refine load_cells rfl 40 (.tmp 36) rfl b (o + k * 21) rfl (prow p) _ Tryz.underlying40 rfl (by kernel_rfl) HRg.out ?_; rw [HAg.out])
              | (go_at_call 16; (with_reducible refine (HCm.out _ HB.out).mono ?_); rintro e w3 ⟨rfl, hb3⟩; have HB3 := Lib.hid (HB.out.trans (hb3.mono hbz)); clear hb3))
            go_ret
            exact ⟨rfl, HB3.out⟩
          | true =>
            by_cases hon : on.size ≤ 300
            · have k3 : ¬ 300 < on.size := by omega
              have HE2 := Lib.hid (all_take1 (P := lightBd) Hm.out (by rw [HZ.out, decide_eq_true hon]; rfl) HE.out)
              clear hon
              go_wp2_with (first
                | ((with_reducible refine at_load (ty := 40) ?_); refine load_cells rfl 40 (.tmp 36) rfl b (o + k * 21) rfl (prow p) _ Tryz.underlying40 rfl (by kernel_rfl) HRg.out ?_; rw [HAg.out])
                | (go_at_call 16; (with_reducible refine (HCm.out _ HB.out).mono ?_); rintro e w3 ⟨rfl, hb3⟩; have HB3 := Lib.hid (HB.out.trans (hb3.mono hbz)); have c20 := (hb3.cell (p := ⟨b, o + k * 21 + 20, none⟩) hb).trans c20; have hbw3 := Nat.lt_of_lt_of_le hb hb3.size; clear hb3))
              go_roundw
              case rel => exact ⟨k + 1, by omega, by go_num, HE2.out, HB3.out⟩
              case measure => simp [intOf]; omega
            · have k3 : 300 < on.size := by omega
              obtain rfl : R = false := by rw [← HRq.out]; exact all_bad (P := lightBd) Hm.out (by rw [HZ.out, decide_eq_false hon]; rfl)
              clear hon
              go_wp2_with (first
                | ((with_reducible refine at_load (ty := 40) ?_); refine load_cells rfl 40 (.tmp 36) rfl b (o + k * 21) rfl (prow p) _ Tryz.underlying40 rfl (by kernel_rfl) HRg.out ?_; rw [HAg.out])
                | (go_at_call 16; (with_reducible refine (HCm.out _ HB.out).mono ?_); rintro e w3 ⟨rfl, hb3⟩; have HB3 := Lib.hid (HB.out.trans (hb3.mono hbz)); have c20 := (hb3.cell (p := ⟨b, o + k * 21 + 20, none⟩) hb).trans c20; have hbw3 := Nat.lt_of_lt_of_le hb hb3.size; clear hb3))
              go_ret
              exact ⟨rfl, HB3.out⟩
        · obtain rfl : k = q := by omega
          obtain rfl : R = true := by rw [← HRq.out]; exact all_done (P := lightBd) HQ.out HE.out
          clear hE hB
          go_wp2
          go_ret
          exact ⟨rfl, HB.out⟩
theorem Tryz.info40 : (Tryz.prog.info? 40).map (fun i => (i.zero, i.size, i.bytes)) = some (some (.agg #[.string ⟨#[]⟩, .int .i64 0, .int .i64 0, .int .i64 0, .int .i64 0, .int .i64 0, .slice none 0 0, .slice none 0 0, .slice none 0 0, .slice none 0 0, .slice none 0 0, .slice none 0 0, .bool false, .slice none 0 0, .int .i64 0, .int .i64 0, .string ⟨#[]⟩, .bool false, .bool false, .bool false]), 20, 272) := by kernel_rfl
theorem own_sl {w : World} {B n k : Nat} {v : Value} {e : TypeId} {xs : List Value} (h : w.ownsRow B e k v n xs) : ∃ a c, v = .slice a n c := by
  rcases h.2 with ⟨e, h0⟩ | ⟨g, cap, cur, e, _⟩
  · exact ⟨none, 0, by rw [e, h0]⟩
  · exact ⟨_, _, e⟩
def isOn (nm : ByteArray) (b : Bd) : Bool := decide (b.on = nm)
def onL (bs : List Bd) (nm : ByteArray) : List Pd := (bs.filter (isOn nm)).map Bd.p
theorem onL_next {bs : List Bd} {k : Nat} {b : Bd} (h : bs[k]? = some b) (nm : ByteArray) : onL (bs.take (k + 1)) nm = onL (bs.take k) nm ++ (if isOn nm b = true then [b.p] else []) := by
  unfold onL
  rw [List.take_add_one, h, List.filter_append, List.map_append]
  congr 1
  show (List.filter (isOn nm) [b]).map Bd.p = _
  rw [List.filter_cons]
  split <;> rfl
def GivesP (w : World) (L : List Pd) (e : Ending) (w' : World) : Prop := (∃ v, e = .returned v ∧ w'.ownsRow w.heap.size 40 20 v L.length (L.flatMap prow)) ∧ Below w.heap.size w w'
theorem prow_one (p : Pd) : ∀ u ∈ prow p, u.oneCell' = true := by
  intro u hu
  simp only [prow, List.mem_cons, List.not_mem_nil, or_false] at hu
  rcases hu with rfl | rfl | rfl | rfl | rfl | rfl | rfl | rfl | rfl | rfl | rfl | rfl | rfl | rfl | rfl | rfl | rfl | rfl | rfl | rfl <;> rfl
end Go.Proofs.YtdfadbpepmkicaaGreat
namespace Go.Proofs.YtdfadbpepmkicaaGreat
namespace Lb
set_option linter.unusedSimpArgs false
open Go.RowKit
set_option linter.unusedVariables false
def intB (v x : Int) : Bool := v == x
set_option maxRecDepth 100000 in
set_option maxHeartbeats 4000000 in
theorem indexi_any (c : Option Addr) (kc : Nat) (l : List Int) (v : Int) (w : World) (hF : PrtL w c l) (hm : l.length ≤ 1000000) :
    Calls Tryz.prog 159 #[.slice c l.length kc, .int .i64 v] w fun e w' => e = .returned (.int .i64 (idxI (intB v) l)) ∧ Below w.heap.size w w' := by
  have HF := Lib.hid hF
  clear hF
  obtain ⟨n, hln⟩ : ∃ n, l.length = n := ⟨_, rfl⟩
  rw [hln] at hm ⊢
  have Hln := Lib.hid hln
  clear hln
  go_enter Tryz.func159, Tryz.ntmps159
  go_wp2
  go_loopw [8] (fun i wr => ∃ k : Nat, k ≤ n ∧ i = .int .i64 k ∧ (l.take k).any (intB v) = false ∧ Below w.heap.size w wr) (fun i _ => n - (intOf i).toNat)
  case atStart => exact ⟨0, by omega, rfl, rfl, by (repeat' (first | with_reducible exact Below.refl _ _ | with_reducible assumption | with_reducible refine Below.drew ?_ | with_reducible refine below_drewN' ?_ _ | with_reducible refine Below.alloc ?_ ?_ _ | with_reducible refine Below.setCell ?_ ?_ _ | with_reducible refine below_step (by assumption) ?_ ?_ | omega | (simp; done) | (simp; omega)))⟩
  case round =>
    obtain ⟨k, hk, rfl, hE, hB⟩ := hrel
    obtain ⟨hcB, hfB⟩ := bcell hB
    have hbz := hB.size
    have HE := Lib.hid hE
    have HB := Lib.hid hB
    clear hE
    by_cases hlt : k < n
    · obtain ⟨x, hx⟩ := mem_at (l := l) (k := k) (by rw [Hln.out]; exact hlt)
      obtain ⟨b, off, rfl, hb, hc⟩ := HF.out (by rw [Hln.out]; omega)
      have hbw : b < wr.heap.size := by omega
      have c0 := hc k x hx 0 (by decide)
      dsimp only [pcs, List.getElem?_cons_zero] at c0
      rw [Nat.mul_one, Nat.add_zero] at c0
      have Hx := Lib.hid hx
      clear hc hx
      cases hv : intB v x
      · have Hs := Lib.hid (any_take1 (P := intB v) Hx.out hv HE.out)
        have k1 : (v == x) = false := hv
        clear hv
        go_wp2
        go_roundw
        case rel => exact ⟨k + 1, by omega, by go_num, Hs.out, by (repeat' (first | with_reducible exact Below.refl _ _ | with_reducible assumption | with_reducible refine Below.drew ?_ | with_reducible refine below_drewN' ?_ _ | with_reducible refine Below.alloc ?_ ?_ _ | with_reducible refine Below.setCell ?_ ?_ _ | with_reducible refine below_step (by assumption) ?_ ?_ | omega | (simp; done) | (simp; omega)))⟩
        case measure => simp [intOf]; omega
      · have Hs := Lib.hid (idx_at (p := intB v) Hx.out HE.out hv)
        have k1 : (v == x) = true := hv
        clear hv
        go_wp2
        go_ret
        exact ⟨by rw [Hs.out]; rfl, by (repeat' (first | with_reducible exact Below.refl _ _ | with_reducible assumption | with_reducible refine Below.drew ?_ | with_reducible refine below_drewN' ?_ _ | with_reducible refine Below.alloc ?_ ?_ _ | with_reducible refine Below.setCell ?_ ?_ _ | with_reducible refine below_step (by assumption) ?_ ?_ | omega | (simp; done) | (simp; omega)))⟩
    · obtain rfl : k = n := by omega
      have Hs := Lib.hid (idx_no (p := intB v) Hln.out HE.out)
      go_wp2
      go_ret
      exact ⟨by rw [Hs.out]; rfl, by (repeat' (first | with_reducible exact Below.refl _ _ | with_reducible assumption | with_reducible refine Below.drew ?_ | with_reducible refine below_drewN' ?_ _ | with_reducible refine Below.alloc ?_ ?_ _ | with_reducible refine Below.setCell ?_ ?_ _ | with_reducible refine below_step (by assumption) ?_ ?_ | omega | (simp; done) | (simp; omega)))⟩
set_option maxRecDepth 100000 in
theorem containsi_any (c : Option Addr) (kc : Nat) (l : List Int) (v : Int) (w : World) (hF : PrtL w c l) (hm : l.length ≤ 1000000) :
    Calls Tryz.prog 152 #[.slice c l.length kc, .int .i64 v] w fun e w' => e = .returned (.bool (l.any (intB v))) ∧ Below w.heap.size w w' := by
  rw [← idx_geq]
  have A := fun V (h : PrtL V c l) => indexi_any c kc l v V h hm
  obtain ⟨i, hi⟩ : ∃ i, idxI (intB v) l = i := ⟨_, rfl⟩
  rw [hi]
  simp only [hi] at A
  clear hi
  have HA := Lib.hid A
  clear A
  go_enter Tryz.func152, Tryz.ntmps152
  go_wp2_with (go_at_call 159; (with_reducible refine (HA.out _ (hF.mono (by (repeat' (first | with_reducible exact Below.refl _ _ | with_reducible assumption | with_reducible refine Below.drew ?_ | with_reducible refine below_drewN' ?_ _ | with_reducible refine Below.alloc ?_ ?_ _ | with_reducible refine Below.setCell ?_ ?_ _ | with_reducible refine below_step (by assumption) ?_ ?_ | omega | (simp; done) | (simp; omega)))))).mono ?_); rintro e w1 ⟨rfl, hb1⟩; have hz1 := hb1.size; (try simp at hz1))
  go_ret
  exact ⟨by first | rfl | simp, by (repeat' (first | with_reducible exact Below.refl _ _ | with_reducible assumption | with_reducible refine Below.drew ?_ | with_reducible refine below_drewN' ?_ _ | with_reducible refine Below.alloc ?_ ?_ _ | with_reducible refine Below.setCell ?_ ?_ _ | with_reducible refine below_step (by assumption) ?_ ?_ | omega | (simp; done) | (simp; omega)))⟩
end Lb
end Go.Proofs.YtdfadbpepmkicaaGreat
namespace Go.Proofs.YtdfadbpepmkicaaGreat
namespace Rs
open Go.RowKit
set_option linter.unusedVariables false
set_option linter.unusedSimpArgs false
set_option maxHeartbeats 400000 in
theorem whole_any (a0 a1 a2 a3 a4 : Int) (w : World) :
    Calls Tryz.prog 118 #[.agg #[.int .i64 a0, .int .i64 a1, .int .i64 a2, .int .i64 a3, .int .i64 a4]] w fun e w' => e = .returned (.agg #[.int .i64 a0, .int .i64 a1, .int .i64 a2, .int .i64 a3, .int .i64 a4]) ∧ Below w.heap.size w w' := by
  go_enter Tryz.func118, Tryz.ntmps118
  go_wp2
  refine bodyPost_ret (v := .agg #[.int .i64 a0, .int .i64 a1, .int .i64 a2, .int .i64 a3, .int .i64 a4]) (by simp [results, Tryz.results118, go_sem]) rfl ⟨rfl, ?_⟩
  (repeat' (first | with_reducible exact Below.refl _ _ | with_reducible assumption | with_reducible refine Below.drew ?_ | with_reducible refine below_drewN' ?_ _ | with_reducible refine Below.alloc ?_ ?_ _ | with_reducible refine Below.setCell ?_ ?_ _ | with_reducible refine below_step (by assumption) ?_ ?_ | omega | (simp; done) | (simp; omega)))
theorem right_any (a0 a1 a2 a3 a4 : Int) (w : World) :
    Calls Tryz.prog 99 #[.agg #[.int .i64 a0, .int .i64 a1, .int .i64 a2, .int .i64 a3, .int .i64 a4]] w fun e w' => e = .returned (.bool (rtB a0 a1 a2 a3 a4)) ∧ Below w.heap.size w w' := resright_any a0 a1 a2 a3 a4 w
def sel (e x : Int) : Int := if e = 0 then x else 0
def addE (a0 a1 a2 a3 a4 b0 b1 b2 b3 b4 : Int) : Int :=
  if rtB a0 a1 a2 a3 a4 = true ∧ rtB b0 b1 b2 b3 b4 = true then (if a0 + b0 ≤ 1125899906842624 ∧ a1 + b1 ≤ 1125899906842624 ∧ a2 + b2 ≤ 1125899906842624 ∧ a3 + b3 ≤ 1125899906842624 ∧ a4 + b4 ≤ 1125899906842624 then 0 else 10) else 1
def subE (a0 a1 a2 a3 a4 b0 b1 b2 b3 b4 : Int) : Int :=
  if rtB a0 a1 a2 a3 a4 = true ∧ rtB b0 b1 b2 b3 b4 = true then (if b0 ≤ a0 ∧ b1 ≤ a1 ∧ b2 ≤ a2 ∧ b3 ≤ a3 ∧ b4 ≤ a4 then 0 else 11) else 1
set_option maxHeartbeats 1000000 in
theorem add_no (a0 a1 a2 a3 a4 b0 b1 b2 b3 b4 : Int) (w : World) (h : rtB a0 a1 a2 a3 a4 = false ∨ rtB b0 b1 b2 b3 b4 = false) :
    Calls Tryz.prog 100 #[.agg #[.int .i64 a0, .int .i64 a1, .int .i64 a2, .int .i64 a3, .int .i64 a4], .agg #[.int .i64 b0, .int .i64 b1, .int .i64 b2, .int .i64 b3, .int .i64 b4]] w fun e w' => e = .returned (.tuple #[.agg #[.int .i64 0, .int .i64 0, .int .i64 0, .int .i64 0, .int .i64 0], .int .i64 1]) ∧ Below w.heap.size w w' := by
  cases ha : rtB a0 a1 a2 a3 a4
  · clear h
    go_enter Tryz.func100, Tryz.ntmps100
    go_wp2_with (go_at_call 99; refine (right_any _ _ _ _ _ _).mono ?_; rintro e w1 ⟨rfl, hb1⟩; obtain ⟨hc1, hf1⟩ := bcell hb1; have hz1 := hb1.size; (try simp at hz1); (try have hza : w.heap.size < w1.heap.size := by omega); (try have hzb : w.heap.size + 1 < w1.heap.size := by omega); (try have hzc : w.heap.size + 1 + 1 < w1.heap.size := by omega); (try have hzd : w.heap.size + 1 + 1 + 1 < w1.heap.size := by omega))
    refine bodyPost_ret (v := .tuple #[.agg #[.int .i64 0, .int .i64 0, .int .i64 0, .int .i64 0, .int .i64 0], .int .i64 1]) (by simp [results, Tryz.results100, go_sem, *]) rfl ⟨rfl, ?_⟩
    (repeat' (first | with_reducible exact Below.refl _ _ | with_reducible assumption | with_reducible refine Below.drew ?_ | with_reducible refine below_drewN' ?_ _ | with_reducible refine Below.alloc ?_ ?_ _ | with_reducible refine Below.setCell ?_ ?_ _ | with_reducible refine below_step (by assumption) ?_ ?_ | omega | (simp; done) | (simp; omega)))
  · have hb : rtB b0 b1 b2 b3 b4 = false := by simpa [ha] using h
    clear h
    go_enter Tryz.func100, Tryz.ntmps100
    go_wp2_with (go_at_call 99; refine (right_any _ _ _ _ _ _).mono ?_; rintro e w1 ⟨rfl, hb1⟩; obtain ⟨hc1, hf1⟩ := bcell hb1; have hz1 := hb1.size; (try simp at hz1); (try have hza : w.heap.size < w1.heap.size := by omega); (try have hzb : w.heap.size + 1 < w1.heap.size := by omega); (try have hzc : w.heap.size + 1 + 1 < w1.heap.size := by omega); (try have hzd : w.heap.size + 1 + 1 + 1 < w1.heap.size := by omega))
    refine bodyPost_ret (v := .tuple #[.agg #[.int .i64 0, .int .i64 0, .int .i64 0, .int .i64 0, .int .i64 0], .int .i64 1]) (by simp [results, Tryz.results100, go_sem, *]) rfl ⟨rfl, ?_⟩
    (repeat' (first | with_reducible exact Below.refl _ _ | with_reducible assumption | with_reducible refine Below.drew ?_ | with_reducible refine below_drewN' ?_ _ | with_reducible refine Below.alloc ?_ ?_ _ | with_reducible refine Below.setCell ?_ ?_ _ | with_reducible refine below_step (by assumption) ?_ ?_ | omega | (simp; done) | (simp; omega)))
set_option maxHeartbeats 1000000 in
theorem add_yes (a0 a1 a2 a3 a4 b0 b1 b2 b3 b4 : Int) (w : World) (ha : rtB a0 a1 a2 a3 a4 = true) (hb : rtB b0 b1 b2 b3 b4 = true) :
    Calls Tryz.prog 100 #[.agg #[.int .i64 a0, .int .i64 a1, .int .i64 a2, .int .i64 a3, .int .i64 a4], .agg #[.int .i64 b0, .int .i64 b1, .int .i64 b2, .int .i64 b3, .int .i64 b4]] w fun e w' => e = .returned (.tuple #[.agg #[.int .i64 (sel (addE a0 a1 a2 a3 a4 b0 b1 b2 b3 b4) (a0 + b0)), .int .i64 (sel (addE a0 a1 a2 a3 a4 b0 b1 b2 b3 b4) (a1 + b1)), .int .i64 (sel (addE a0 a1 a2 a3 a4 b0 b1 b2 b3 b4) (a2 + b2)), .int .i64 (sel (addE a0 a1 a2 a3 a4 b0 b1 b2 b3 b4) (a3 + b3)), .int .i64 (sel (addE a0 a1 a2 a3 a4 b0 b1 b2 b3 b4) (a4 + b4))], .int .i64 (addE a0 a1 a2 a3 a4 b0 b1 b2 b3 b4)]) ∧ Below w.heap.size w w' := by
  have He := Lib.hid (show addE a0 a1 a2 a3 a4 b0 b1 b2 b3 b4 = _ from if_pos ⟨ha, hb⟩)
  obtain ⟨⟨al0, au0⟩, ⟨al1, au1⟩, ⟨al2, au2⟩, ⟨al3, au3⟩, ⟨al4, au4⟩⟩ := (rtB_iff _ _ _ _ _).1 ha
  obtain ⟨⟨bl0, bu0⟩, ⟨bl1, bu1⟩, ⟨bl2, bu2⟩, ⟨bl3, bu3⟩, ⟨bl4, bu4⟩⟩ := (rtB_iff _ _ _ _ _).1 hb
  have i0 : ∀ w : World, (Instr.index 135 (.agg #[.int .i64 b0, .int .i64 b1, .int .i64 b2, .int .i64 b3, .int .i64 b4]) (.int .i64 0)).run Tryz.prog w = .ok (.int .i64 b0) w := fun _ => by kernel_rfl
  have i1 : ∀ w : World, (Instr.index 135 (.agg #[.int .i64 b0, .int .i64 b1, .int .i64 b2, .int .i64 b3, .int .i64 b4]) (.int .i64 1)).run Tryz.prog w = .ok (.int .i64 b1) w := fun _ => by kernel_rfl
  have i2 : ∀ w : World, (Instr.index 135 (.agg #[.int .i64 b0, .int .i64 b1, .int .i64 b2, .int .i64 b3, .int .i64 b4]) (.int .i64 2)).run Tryz.prog w = .ok (.int .i64 b2) w := fun _ => by kernel_rfl
  have i3 : ∀ w : World, (Instr.index 135 (.agg #[.int .i64 b0, .int .i64 b1, .int .i64 b2, .int .i64 b3, .int .i64 b4]) (.int .i64 3)).run Tryz.prog w = .ok (.int .i64 b3) w := fun _ => by kernel_rfl
  have i4 : ∀ w : World, (Instr.index 135 (.agg #[.int .i64 b0, .int .i64 b1, .int .i64 b2, .int .i64 b3, .int .i64 b4]) (.int .i64 4)).run Tryz.prog w = .ok (.int .i64 b4) w := fun _ => by kernel_rfl
  go_enter Tryz.func100, Tryz.ntmps100
  go_wp2_with (first | (go_at_call 99; refine (right_any _ _ _ _ _ _).mono ?_; rintro e w1 ⟨rfl, hb1⟩; obtain ⟨hc1, hf1⟩ := bcell hb1; have hz1 := hb1.size; (try simp at hz1); (try have hza : w.heap.size < w1.heap.size := by omega); (try have hzb : w.heap.size + 1 < w1.heap.size := by omega); (try have hzc : w.heap.size + 1 + 1 < w1.heap.size := by omega); (try have hzd : w.heap.size + 1 + 1 + 1 < w1.heap.size := by omega)) | (go_at_call 117; refine (parts_any _ _ _ _ _ _).mono ?_; rintro e w1 ⟨rfl, hb1⟩; obtain ⟨hc1, hf1⟩ := bcell hb1; have hz1 := hb1.size; (try simp at hz1); (try have hza : w.heap.size < w1.heap.size := by omega); (try have hzb : w.heap.size + 1 < w1.heap.size := by omega); (try have hzc : w.heap.size + 1 + 1 < w1.heap.size := by omega); (try have hzd : w.heap.size + 1 + 1 + 1 < w1.heap.size := by omega)))
  refine wp_loop_rounds 6 ?_
  iterate 6
    all_goals (try rw [rounds_succ])
    all_goals (try go_wp2_with (go_at_call 118; refine (whole_any _ _ _ _ _ _).mono ?_; rintro e w1 ⟨rfl, hb1⟩; obtain ⟨hc1, hf1⟩ := bcell hb1; have hz1 := hb1.size; (try simp at hz1); (try have hza : w.heap.size < w1.heap.size := by omega); (try have hzb : w.heap.size + 1 < w1.heap.size := by omega); (try have hzc : w.heap.size + 1 + 1 < w1.heap.size := by omega); (try have hzd : w.heap.size + 1 + 1 + 1 < w1.heap.size := by omega)))
  all_goals first
    | (have he : addE a0 a1 a2 a3 a4 b0 b1 b2 b3 b4 = 0 := He.out.trans (if_pos (by omega)); refine bodyPost_ret (v := .tuple #[.agg #[.int .i64 (sel (addE a0 a1 a2 a3 a4 b0 b1 b2 b3 b4) (a0 + b0)), .int .i64 (sel (addE a0 a1 a2 a3 a4 b0 b1 b2 b3 b4) (a1 + b1)), .int .i64 (sel (addE a0 a1 a2 a3 a4 b0 b1 b2 b3 b4) (a2 + b2)), .int .i64 (sel (addE a0 a1 a2 a3 a4 b0 b1 b2 b3 b4) (a3 + b3)), .int .i64 (sel (addE a0 a1 a2 a3 a4 b0 b1 b2 b3 b4) (a4 + b4))], .int .i64 (addE a0 a1 a2 a3 a4 b0 b1 b2 b3 b4)]) (by simp [results, Tryz.results100, go_sem, *, sel]) rfl ⟨rfl, ?_⟩; (repeat' (first | with_reducible exact Below.refl _ _ | with_reducible assumption | with_reducible refine Below.drew ?_ | with_reducible refine below_drewN' ?_ _ | with_reducible refine Below.alloc ?_ ?_ _ | with_reducible refine Below.setCell ?_ ?_ _ | with_reducible refine below_step (by assumption) ?_ ?_ | omega | (simp; done) | (simp; omega))))
    | (have he : addE a0 a1 a2 a3 a4 b0 b1 b2 b3 b4 = 10 := He.out.trans (if_neg (by omega)); refine bodyPost_ret (v := .tuple #[.agg #[.int .i64 (sel (addE a0 a1 a2 a3 a4 b0 b1 b2 b3 b4) (a0 + b0)), .int .i64 (sel (addE a0 a1 a2 a3 a4 b0 b1 b2 b3 b4) (a1 + b1)), .int .i64 (sel (addE a0 a1 a2 a3 a4 b0 b1 b2 b3 b4) (a2 + b2)), .int .i64 (sel (addE a0 a1 a2 a3 a4 b0 b1 b2 b3 b4) (a3 + b3)), .int .i64 (sel (addE a0 a1 a2 a3 a4 b0 b1 b2 b3 b4) (a4 + b4))], .int .i64 (addE a0 a1 a2 a3 a4 b0 b1 b2 b3 b4)]) (by simp [results, Tryz.results100, go_sem, *, sel]) rfl ⟨rfl, ?_⟩; (repeat' (first | with_reducible exact Below.refl _ _ | with_reducible assumption | with_reducible refine Below.drew ?_ | with_reducible refine below_drewN' ?_ _ | with_reducible refine Below.alloc ?_ ?_ _ | with_reducible refine Below.setCell ?_ ?_ _ | with_reducible refine below_step (by assumption) ?_ ?_ | omega | (simp; done) | (simp; omega))))
theorem add_any (a0 a1 a2 a3 a4 b0 b1 b2 b3 b4 : Int) (w : World) :
    Calls Tryz.prog 100 #[.agg #[.int .i64 a0, .int .i64 a1, .int .i64 a2, .int .i64 a3, .int .i64 a4], .agg #[.int .i64 b0, .int .i64 b1, .int .i64 b2, .int .i64 b3, .int .i64 b4]] w fun e w' => e = .returned (.tuple #[.agg #[.int .i64 (sel (addE a0 a1 a2 a3 a4 b0 b1 b2 b3 b4) (a0 + b0)), .int .i64 (sel (addE a0 a1 a2 a3 a4 b0 b1 b2 b3 b4) (a1 + b1)), .int .i64 (sel (addE a0 a1 a2 a3 a4 b0 b1 b2 b3 b4) (a2 + b2)), .int .i64 (sel (addE a0 a1 a2 a3 a4 b0 b1 b2 b3 b4) (a3 + b3)), .int .i64 (sel (addE a0 a1 a2 a3 a4 b0 b1 b2 b3 b4) (a4 + b4))], .int .i64 (addE a0 a1 a2 a3 a4 b0 b1 b2 b3 b4)]) ∧ Below w.heap.size w w' := by
  cases ha : rtB a0 a1 a2 a3 a4
  · have he : addE a0 a1 a2 a3 a4 b0 b1 b2 b3 b4 = 1 := by simp [addE, ha]
    rw [he]; exact add_no a0 a1 a2 a3 a4 b0 b1 b2 b3 b4 w (Or.inl ha)
  cases hb : rtB b0 b1 b2 b3 b4
  · have he : addE a0 a1 a2 a3 a4 b0 b1 b2 b3 b4 = 1 := by simp [addE, hb]
    rw [he]; exact add_no a0 a1 a2 a3 a4 b0 b1 b2 b3 b4 w (Or.inr hb)
  · exact add_yes a0 a1 a2 a3 a4 b0 b1 b2 b3 b4 w ha hb
set_option maxHeartbeats 1000000 in
theorem sub_no (a0 a1 a2 a3 a4 b0 b1 b2 b3 b4 : Int) (w : World) (h : rtB a0 a1 a2 a3 a4 = false ∨ rtB b0 b1 b2 b3 b4 = false) :
    Calls Tryz.prog 150 #[.agg #[.int .i64 a0, .int .i64 a1, .int .i64 a2, .int .i64 a3, .int .i64 a4], .agg #[.int .i64 b0, .int .i64 b1, .int .i64 b2, .int .i64 b3, .int .i64 b4]] w fun e w' => e = .returned (.tuple #[.agg #[.int .i64 0, .int .i64 0, .int .i64 0, .int .i64 0, .int .i64 0], .int .i64 1]) ∧ Below w.heap.size w w' := by
  cases ha : rtB a0 a1 a2 a3 a4
  · clear h
    go_enter Tryz.func150, Tryz.ntmps150
    go_wp2_with (go_at_call 99; refine (right_any _ _ _ _ _ _).mono ?_; rintro e w1 ⟨rfl, hb1⟩; obtain ⟨hc1, hf1⟩ := bcell hb1; have hz1 := hb1.size; (try simp at hz1); (try have hza : w.heap.size < w1.heap.size := by omega); (try have hzb : w.heap.size + 1 < w1.heap.size := by omega); (try have hzc : w.heap.size + 1 + 1 < w1.heap.size := by omega); (try have hzd : w.heap.size + 1 + 1 + 1 < w1.heap.size := by omega))
    refine bodyPost_ret (v := .tuple #[.agg #[.int .i64 0, .int .i64 0, .int .i64 0, .int .i64 0, .int .i64 0], .int .i64 1]) (by simp [results, Tryz.results150, go_sem, *]) rfl ⟨rfl, ?_⟩; (repeat' (first | with_reducible exact Below.refl _ _ | with_reducible assumption | with_reducible refine Below.drew ?_ | with_reducible refine below_drewN' ?_ _ | with_reducible refine Below.alloc ?_ ?_ _ | with_reducible refine Below.setCell ?_ ?_ _ | with_reducible refine below_step (by assumption) ?_ ?_ | omega | (simp; done) | (simp; omega)))
  · have hb : rtB b0 b1 b2 b3 b4 = false := by simpa [ha] using h
    clear h
    go_enter Tryz.func150, Tryz.ntmps150
    go_wp2_with (go_at_call 99; refine (right_any _ _ _ _ _ _).mono ?_; rintro e w1 ⟨rfl, hb1⟩; obtain ⟨hc1, hf1⟩ := bcell hb1; have hz1 := hb1.size; (try simp at hz1); (try have hza : w.heap.size < w1.heap.size := by omega); (try have hzb : w.heap.size + 1 < w1.heap.size := by omega); (try have hzc : w.heap.size + 1 + 1 < w1.heap.size := by omega); (try have hzd : w.heap.size + 1 + 1 + 1 < w1.heap.size := by omega))
    refine bodyPost_ret (v := .tuple #[.agg #[.int .i64 0, .int .i64 0, .int .i64 0, .int .i64 0, .int .i64 0], .int .i64 1]) (by simp [results, Tryz.results150, go_sem, *]) rfl ⟨rfl, ?_⟩; (repeat' (first | with_reducible exact Below.refl _ _ | with_reducible assumption | with_reducible refine Below.drew ?_ | with_reducible refine below_drewN' ?_ _ | with_reducible refine Below.alloc ?_ ?_ _ | with_reducible refine Below.setCell ?_ ?_ _ | with_reducible refine below_step (by assumption) ?_ ?_ | omega | (simp; done) | (simp; omega)))
set_option maxHeartbeats 1000000 in
theorem sub_yes (a0 a1 a2 a3 a4 b0 b1 b2 b3 b4 : Int) (w : World) (ha : rtB a0 a1 a2 a3 a4 = true) (hb : rtB b0 b1 b2 b3 b4 = true) :
    Calls Tryz.prog 150 #[.agg #[.int .i64 a0, .int .i64 a1, .int .i64 a2, .int .i64 a3, .int .i64 a4], .agg #[.int .i64 b0, .int .i64 b1, .int .i64 b2, .int .i64 b3, .int .i64 b4]] w fun e w' => e = .returned (.tuple #[.agg #[.int .i64 (sel (subE a0 a1 a2 a3 a4 b0 b1 b2 b3 b4) (a0 - b0)), .int .i64 (sel (subE a0 a1 a2 a3 a4 b0 b1 b2 b3 b4) (a1 - b1)), .int .i64 (sel (subE a0 a1 a2 a3 a4 b0 b1 b2 b3 b4) (a2 - b2)), .int .i64 (sel (subE a0 a1 a2 a3 a4 b0 b1 b2 b3 b4) (a3 - b3)), .int .i64 (sel (subE a0 a1 a2 a3 a4 b0 b1 b2 b3 b4) (a4 - b4))], .int .i64 (subE a0 a1 a2 a3 a4 b0 b1 b2 b3 b4)]) ∧ Below w.heap.size w w' := by
  have He := Lib.hid (show subE a0 a1 a2 a3 a4 b0 b1 b2 b3 b4 = _ from if_pos ⟨ha, hb⟩)
  obtain ⟨⟨al0, au0⟩, ⟨al1, au1⟩, ⟨al2, au2⟩, ⟨al3, au3⟩, ⟨al4, au4⟩⟩ := (rtB_iff _ _ _ _ _).1 ha
  obtain ⟨⟨bl0, bu0⟩, ⟨bl1, bu1⟩, ⟨bl2, bu2⟩, ⟨bl3, bu3⟩, ⟨bl4, bu4⟩⟩ := (rtB_iff _ _ _ _ _).1 hb
  have i0 : ∀ w : World, (Instr.index 135 (.agg #[.int .i64 b0, .int .i64 b1, .int .i64 b2, .int .i64 b3, .int .i64 b4]) (.int .i64 0)).run Tryz.prog w = .ok (.int .i64 b0) w := fun _ => by kernel_rfl
  have i1 : ∀ w : World, (Instr.index 135 (.agg #[.int .i64 b0, .int .i64 b1, .int .i64 b2, .int .i64 b3, .int .i64 b4]) (.int .i64 1)).run Tryz.prog w = .ok (.int .i64 b1) w := fun _ => by kernel_rfl
  have i2 : ∀ w : World, (Instr.index 135 (.agg #[.int .i64 b0, .int .i64 b1, .int .i64 b2, .int .i64 b3, .int .i64 b4]) (.int .i64 2)).run Tryz.prog w = .ok (.int .i64 b2) w := fun _ => by kernel_rfl
  have i3 : ∀ w : World, (Instr.index 135 (.agg #[.int .i64 b0, .int .i64 b1, .int .i64 b2, .int .i64 b3, .int .i64 b4]) (.int .i64 3)).run Tryz.prog w = .ok (.int .i64 b3) w := fun _ => by kernel_rfl
  have i4 : ∀ w : World, (Instr.index 135 (.agg #[.int .i64 b0, .int .i64 b1, .int .i64 b2, .int .i64 b3, .int .i64 b4]) (.int .i64 4)).run Tryz.prog w = .ok (.int .i64 b4) w := fun _ => by kernel_rfl
  go_enter Tryz.func150, Tryz.ntmps150
  go_wp2_with (first | (go_at_call 99; refine (right_any _ _ _ _ _ _).mono ?_; rintro e w1 ⟨rfl, hb1⟩; obtain ⟨hc1, hf1⟩ := bcell hb1; have hz1 := hb1.size; (try simp at hz1); (try have hza : w.heap.size < w1.heap.size := by omega); (try have hzb : w.heap.size + 1 < w1.heap.size := by omega); (try have hzc : w.heap.size + 1 + 1 < w1.heap.size := by omega); (try have hzd : w.heap.size + 1 + 1 + 1 < w1.heap.size := by omega)) | (go_at_call 117; refine (parts_any _ _ _ _ _ _).mono ?_; rintro e w1 ⟨rfl, hb1⟩; obtain ⟨hc1, hf1⟩ := bcell hb1; have hz1 := hb1.size; (try simp at hz1); (try have hza : w.heap.size < w1.heap.size := by omega); (try have hzb : w.heap.size + 1 < w1.heap.size := by omega); (try have hzc : w.heap.size + 1 + 1 < w1.heap.size := by omega); (try have hzd : w.heap.size + 1 + 1 + 1 < w1.heap.size := by omega)))
  refine wp_loop_rounds 6 ?_
  iterate 6
    all_goals (try rw [rounds_succ])
    all_goals (try go_wp2_with (go_at_call 118; refine (whole_any _ _ _ _ _ _).mono ?_; rintro e w1 ⟨rfl, hb1⟩; obtain ⟨hc1, hf1⟩ := bcell hb1; have hz1 := hb1.size; (try simp at hz1); (try have hza : w.heap.size < w1.heap.size := by omega); (try have hzb : w.heap.size + 1 < w1.heap.size := by omega); (try have hzc : w.heap.size + 1 + 1 < w1.heap.size := by omega); (try have hzd : w.heap.size + 1 + 1 + 1 < w1.heap.size := by omega)))
  all_goals first
    | (have he : subE a0 a1 a2 a3 a4 b0 b1 b2 b3 b4 = 0 := He.out.trans (if_pos (by omega)); refine bodyPost_ret (v := .tuple #[.agg #[.int .i64 (sel (subE a0 a1 a2 a3 a4 b0 b1 b2 b3 b4) (a0 - b0)), .int .i64 (sel (subE a0 a1 a2 a3 a4 b0 b1 b2 b3 b4) (a1 - b1)), .int .i64 (sel (subE a0 a1 a2 a3 a4 b0 b1 b2 b3 b4) (a2 - b2)), .int .i64 (sel (subE a0 a1 a2 a3 a4 b0 b1 b2 b3 b4) (a3 - b3)), .int .i64 (sel (subE a0 a1 a2 a3 a4 b0 b1 b2 b3 b4) (a4 - b4))], .int .i64 (subE a0 a1 a2 a3 a4 b0 b1 b2 b3 b4)]) (by simp [results, Tryz.results150, go_sem, *, sel]) rfl ⟨rfl, ?_⟩; (repeat' (first | with_reducible exact Below.refl _ _ | with_reducible assumption | with_reducible refine Below.drew ?_ | with_reducible refine below_drewN' ?_ _ | with_reducible refine Below.alloc ?_ ?_ _ | with_reducible refine Below.setCell ?_ ?_ _ | with_reducible refine below_step (by assumption) ?_ ?_ | omega | (simp; done) | (simp; omega))))
    | (have he : subE a0 a1 a2 a3 a4 b0 b1 b2 b3 b4 = 11 := He.out.trans (if_neg (by omega)); refine bodyPost_ret (v := .tuple #[.agg #[.int .i64 (sel (subE a0 a1 a2 a3 a4 b0 b1 b2 b3 b4) (a0 - b0)), .int .i64 (sel (subE a0 a1 a2 a3 a4 b0 b1 b2 b3 b4) (a1 - b1)), .int .i64 (sel (subE a0 a1 a2 a3 a4 b0 b1 b2 b3 b4) (a2 - b2)), .int .i64 (sel (subE a0 a1 a2 a3 a4 b0 b1 b2 b3 b4) (a3 - b3)), .int .i64 (sel (subE a0 a1 a2 a3 a4 b0 b1 b2 b3 b4) (a4 - b4))], .int .i64 (subE a0 a1 a2 a3 a4 b0 b1 b2 b3 b4)]) (by simp [results, Tryz.results150, go_sem, *, sel]) rfl ⟨rfl, ?_⟩; (repeat' (first | with_reducible exact Below.refl _ _ | with_reducible assumption | with_reducible refine Below.drew ?_ | with_reducible refine below_drewN' ?_ _ | with_reducible refine Below.alloc ?_ ?_ _ | with_reducible refine Below.setCell ?_ ?_ _ | with_reducible refine below_step (by assumption) ?_ ?_ | omega | (simp; done) | (simp; omega))))
theorem sub_any (a0 a1 a2 a3 a4 b0 b1 b2 b3 b4 : Int) (w : World) :
    Calls Tryz.prog 150 #[.agg #[.int .i64 a0, .int .i64 a1, .int .i64 a2, .int .i64 a3, .int .i64 a4], .agg #[.int .i64 b0, .int .i64 b1, .int .i64 b2, .int .i64 b3, .int .i64 b4]] w fun e w' => e = .returned (.tuple #[.agg #[.int .i64 (sel (subE a0 a1 a2 a3 a4 b0 b1 b2 b3 b4) (a0 - b0)), .int .i64 (sel (subE a0 a1 a2 a3 a4 b0 b1 b2 b3 b4) (a1 - b1)), .int .i64 (sel (subE a0 a1 a2 a3 a4 b0 b1 b2 b3 b4) (a2 - b2)), .int .i64 (sel (subE a0 a1 a2 a3 a4 b0 b1 b2 b3 b4) (a3 - b3)), .int .i64 (sel (subE a0 a1 a2 a3 a4 b0 b1 b2 b3 b4) (a4 - b4))], .int .i64 (subE a0 a1 a2 a3 a4 b0 b1 b2 b3 b4)]) ∧ Below w.heap.size w w' := by
  cases ha : rtB a0 a1 a2 a3 a4
  · have he : subE a0 a1 a2 a3 a4 b0 b1 b2 b3 b4 = 1 := by simp [subE, ha]
    rw [he]; exact sub_no a0 a1 a2 a3 a4 b0 b1 b2 b3 b4 w (Or.inl ha)
  cases hb : rtB b0 b1 b2 b3 b4
  · have he : subE a0 a1 a2 a3 a4 b0 b1 b2 b3 b4 = 1 := by simp [subE, hb]
    rw [he]; exact sub_no a0 a1 a2 a3 a4 b0 b1 b2 b3 b4 w (Or.inr hb)
  · exact sub_yes a0 a1 a2 a3 a4 b0 b1 b2 b3 b4 w ha hb
def fitsB (a0 a1 a2 a3 a4 b0 b1 b2 b3 b4 : Int) : Bool := decide (subE b0 b1 b2 b3 b4 a0 a1 a2 a3 a4 = 0)
set_option maxHeartbeats 400000 in
theorem fits_any (a0 a1 a2 a3 a4 b0 b1 b2 b3 b4 : Int) (w : World) :
    Calls Tryz.prog 139 #[.agg #[.int .i64 a0, .int .i64 a1, .int .i64 a2, .int .i64 a3, .int .i64 a4], .agg #[.int .i64 b0, .int .i64 b1, .int .i64 b2, .int .i64 b3, .int .i64 b4]] w fun e w' => e = .returned (.bool (fitsB a0 a1 a2 a3 a4 b0 b1 b2 b3 b4)) ∧ Below w.heap.size w w' := by
  go_enter Tryz.func139, Tryz.ntmps139
  go_wp2_with (go_at_call 150; refine (sub_any _ _ _ _ _ _ _ _ _ _ _).mono ?_; rintro e w1 ⟨rfl, hb1⟩; obtain ⟨hc1, hf1⟩ := bcell hb1; have hz1 := hb1.size; (try simp at hz1); (try have hza : w.heap.size < w1.heap.size := by omega); (try have hzb : w.heap.size + 1 < w1.heap.size := by omega); (try have hzc : w.heap.size + 1 + 1 < w1.heap.size := by omega); (try have hzd : w.heap.size + 1 + 1 + 1 < w1.heap.size := by omega))
  go_ret
  refine ⟨?_, by (repeat' (first | with_reducible exact Below.refl _ _ | with_reducible assumption | with_reducible refine Below.drew ?_ | with_reducible refine below_drewN' ?_ _ | with_reducible refine Below.alloc ?_ ?_ _ | with_reducible refine Below.setCell ?_ ?_ _ | with_reducible refine below_step (by assumption) ?_ ?_ | omega | (simp; done) | (simp; omega)))⟩
  simp [fitsB]
  rfl
def leastC (a0 a1 a2 a3 a4 b0 b1 b2 b3 b4 x y : Int) : Int := if rtB a0 a1 a2 a3 a4 = true ∧ rtB b0 b1 b2 b3 b4 = true then minI x y else 0
set_option maxHeartbeats 1000000 in
theorem least_any (a0 a1 a2 a3 a4 b0 b1 b2 b3 b4 : Int) (w : World) :
    Calls Tryz.prog 151 #[.agg #[.int .i64 a0, .int .i64 a1, .int .i64 a2, .int .i64 a3, .int .i64 a4], .agg #[.int .i64 b0, .int .i64 b1, .int .i64 b2, .int .i64 b3, .int .i64 b4]] w fun e w' => e = .returned (.agg #[.int .i64 (leastC a0 a1 a2 a3 a4 b0 b1 b2 b3 b4 a0 b0), .int .i64 (leastC a0 a1 a2 a3 a4 b0 b1 b2 b3 b4 a1 b1), .int .i64 (leastC a0 a1 a2 a3 a4 b0 b1 b2 b3 b4 a2 b2), .int .i64 (leastC a0 a1 a2 a3 a4 b0 b1 b2 b3 b4 a3 b3), .int .i64 (leastC a0 a1 a2 a3 a4 b0 b1 b2 b3 b4 a4 b4)]) ∧ Below w.heap.size w w' := by
  cases ha : rtB a0 a1 a2 a3 a4
  · have he : ∀ x y, leastC a0 a1 a2 a3 a4 b0 b1 b2 b3 b4 x y = 0 := by simp [leastC, ha]
    simp only [he]
    go_enter Tryz.func151, Tryz.ntmps151
    go_wp2_with (go_at_call 99; refine (right_any _ _ _ _ _ _).mono ?_; rintro e w1 ⟨rfl, hb1⟩; obtain ⟨hc1, hf1⟩ := bcell hb1; have hz1 := hb1.size; (try simp at hz1); (try have hza : w.heap.size < w1.heap.size := by omega); (try have hzb : w.heap.size + 1 < w1.heap.size := by omega); (try have hzc : w.heap.size + 1 + 1 < w1.heap.size := by omega); (try have hzd : w.heap.size + 1 + 1 + 1 < w1.heap.size := by omega))
    refine bodyPost_ret (v := .agg #[.int .i64 0, .int .i64 0, .int .i64 0, .int .i64 0, .int .i64 0]) (by simp [results, Tryz.results151, go_sem, *]) rfl ⟨rfl, ?_⟩; (repeat' (first | with_reducible exact Below.refl _ _ | with_reducible assumption | with_reducible refine Below.drew ?_ | with_reducible refine below_drewN' ?_ _ | with_reducible refine Below.alloc ?_ ?_ _ | with_reducible refine Below.setCell ?_ ?_ _ | with_reducible refine below_step (by assumption) ?_ ?_ | omega | (simp; done) | (simp; omega)))
  cases hb : rtB b0 b1 b2 b3 b4
  · have he : ∀ x y, leastC a0 a1 a2 a3 a4 b0 b1 b2 b3 b4 x y = 0 := by simp [leastC, hb]
    simp only [he]
    go_enter Tryz.func151, Tryz.ntmps151
    go_wp2_with (go_at_call 99; refine (right_any _ _ _ _ _ _).mono ?_; rintro e w1 ⟨rfl, hb1⟩; obtain ⟨hc1, hf1⟩ := bcell hb1; have hz1 := hb1.size; (try simp at hz1); (try have hza : w.heap.size < w1.heap.size := by omega); (try have hzb : w.heap.size + 1 < w1.heap.size := by omega); (try have hzc : w.heap.size + 1 + 1 < w1.heap.size := by omega); (try have hzd : w.heap.size + 1 + 1 + 1 < w1.heap.size := by omega))
    refine bodyPost_ret (v := .agg #[.int .i64 0, .int .i64 0, .int .i64 0, .int .i64 0, .int .i64 0]) (by simp [results, Tryz.results151, go_sem, *]) rfl ⟨rfl, ?_⟩; (repeat' (first | with_reducible exact Below.refl _ _ | with_reducible assumption | with_reducible refine Below.drew ?_ | with_reducible refine below_drewN' ?_ _ | with_reducible refine Below.alloc ?_ ?_ _ | with_reducible refine Below.setCell ?_ ?_ _ | with_reducible refine below_step (by assumption) ?_ ?_ | omega | (simp; done) | (simp; omega)))
  · have he : ∀ x y, leastC a0 a1 a2 a3 a4 b0 b1 b2 b3 b4 x y = minI x y := by simp [leastC, ha, hb]
    simp only [he]
    clear he
    have hmn := minI_if
    have i0 : ∀ w : World, (Instr.index 135 (.agg #[.int .i64 b0, .int .i64 b1, .int .i64 b2, .int .i64 b3, .int .i64 b4]) (.int .i64 0)).run Tryz.prog w = .ok (.int .i64 b0) w := fun _ => by kernel_rfl
    have i1 : ∀ w : World, (Instr.index 135 (.agg #[.int .i64 b0, .int .i64 b1, .int .i64 b2, .int .i64 b3, .int .i64 b4]) (.int .i64 1)).run Tryz.prog w = .ok (.int .i64 b1) w := fun _ => by kernel_rfl
    have i2 : ∀ w : World, (Instr.index 135 (.agg #[.int .i64 b0, .int .i64 b1, .int .i64 b2, .int .i64 b3, .int .i64 b4]) (.int .i64 2)).run Tryz.prog w = .ok (.int .i64 b2) w := fun _ => by kernel_rfl
    have i3 : ∀ w : World, (Instr.index 135 (.agg #[.int .i64 b0, .int .i64 b1, .int .i64 b2, .int .i64 b3, .int .i64 b4]) (.int .i64 3)).run Tryz.prog w = .ok (.int .i64 b3) w := fun _ => by kernel_rfl
    have i4 : ∀ w : World, (Instr.index 135 (.agg #[.int .i64 b0, .int .i64 b1, .int .i64 b2, .int .i64 b3, .int .i64 b4]) (.int .i64 4)).run Tryz.prog w = .ok (.int .i64 b4) w := fun _ => by kernel_rfl
    go_enter Tryz.func151, Tryz.ntmps151
    go_wp2_with (first | (go_at_call 99; refine (right_any _ _ _ _ _ _).mono ?_; rintro e w1 ⟨rfl, hb1⟩; obtain ⟨hc1, hf1⟩ := bcell hb1; have hz1 := hb1.size; (try simp at hz1); (try have hza : w.heap.size < w1.heap.size := by omega); (try have hzb : w.heap.size + 1 < w1.heap.size := by omega); (try have hzc : w.heap.size + 1 + 1 < w1.heap.size := by omega); (try have hzd : w.heap.size + 1 + 1 + 1 < w1.heap.size := by omega)) | (go_at_call 117; refine (parts_any _ _ _ _ _ _).mono ?_; rintro e w1 ⟨rfl, hb1⟩; obtain ⟨hc1, hf1⟩ := bcell hb1; have hz1 := hb1.size; (try simp at hz1); (try have hza : w.heap.size < w1.heap.size := by omega); (try have hzb : w.heap.size + 1 < w1.heap.size := by omega); (try have hzc : w.heap.size + 1 + 1 < w1.heap.size := by omega); (try have hzd : w.heap.size + 1 + 1 + 1 < w1.heap.size := by omega)))
    refine wp_loop_rounds 6 ?_
    iterate 6
      all_goals (try rw [rounds_succ])
      all_goals (try go_wp2_with (go_at_call 118; refine (whole_any _ _ _ _ _ _).mono ?_; rintro e w1 ⟨rfl, hb1⟩; obtain ⟨hc1, hf1⟩ := bcell hb1; have hz1 := hb1.size; (try simp at hz1); (try have hza : w.heap.size < w1.heap.size := by omega); (try have hzb : w.heap.size + 1 < w1.heap.size := by omega); (try have hzc : w.heap.size + 1 + 1 < w1.heap.size := by omega); (try have hzd : w.heap.size + 1 + 1 + 1 < w1.heap.size := by omega)))
    refine bodyPost_ret (v := .agg #[.int .i64 (minI a0 b0), .int .i64 (minI a1 b1), .int .i64 (minI a2 b2), .int .i64 (minI a3 b3), .int .i64 (minI a4 b4)]) (by simp [results, Tryz.results151, go_sem, *]) rfl ⟨rfl, ?_⟩; (repeat' (first | with_reducible exact Below.refl _ _ | with_reducible assumption | with_reducible refine Below.drew ?_ | with_reducible refine below_drewN' ?_ _ | with_reducible refine Below.alloc ?_ ?_ _ | with_reducible refine Below.setCell ?_ ?_ _ | with_reducible refine below_step (by assumption) ?_ ?_ | omega | (simp; done) | (simp; omega)))
def howS (n a b : Int) : Int := if 0 < a then minI n (b / a) else n
def hv (a0 a1 a2 a3 a4 b0 b1 b2 b3 b4 : Int) : Nat → Int
  | 0 => 400
  | 1 => howS 400 a0 b0
  | 2 => howS (howS 400 a0 b0) a1 b1
  | 3 => howS (howS (howS 400 a0 b0) a1 b1) a2 b2
  | 4 => howS (howS (howS (howS 400 a0 b0) a1 b1) a2 b2) a3 b3
  | _ => howS (howS (howS (howS (howS 400 a0 b0) a1 b1) a2 b2) a3 b3) a4 b4
end Rs
end Go.Proofs.YtdfadbpepmkicaaGreat
namespace Go.Proofs.YtdfadbpepmkicaaGreat
open Go.RowKit
set_option linter.unusedVariables false
set_option linter.unusedSimpArgs false
def partB (o : Oper) : Bool := match o.op with
  | .extract _ _ => true
  | .move _ => true
  | _ => false
def lateB (l : List Oper) (m : Nat) (ps : List Nat) : Bool :=
  decide (m ≤ l.length) && (ps.all fun p => decide (p < m) && (match l[p]? with | some o => partB o | none => false) && Region.free .any l.toArray ((List.range l.length).map fun j => ((masks l []).getD p 0).testBit j).toArray p) &&
  (List.range l.length).all fun i => decide (i < m) || (List.range i).all fun j => ((masks l []).getD i 0).testBit j ||
    (ps.contains j && match l[j]? with | some oj => oj.after.toList.all fun e => !Region.binds .any e || ((masks l []).getD i 0).testBit e.on | none => false)
def FreeAt (ops : Array Oper) (p : Nat) : Prop := ∀ (L : Nat → Prop) (o : Oper), Closed ops L → ops[p]? = some o → (∀ e ∈ o.after, Region.binds .any e = true → L e.on) →
  ∀ j oj, ops[j]? = some oj → j ≠ p → ¬ L j → (∀ e ∈ oj.after, Region.binds .any e = true → e.on ≠ p) → o.apart ops oj = true
section
variable {P : Program} {ops : Array Oper} {W : World}
theorem part_op {o : Oper} (hp : partB o = true) : (∃ x, o.op = .move x) ∨ ∃ t ix, o.op = .extract t ix := by
  unfold partB at hp
  cases ho : o.op <;> rw [ho] at hp <;> first | exact absurd hp Bool.false_ne_true | exact .inl ⟨_, rfl⟩ | exact .inr ⟨_, _, rfl⟩
theorem move_run {o : Oper} {x : Operand} (ho : o.op = .move x) (a : Act) (w : World) : (execOp a.eval o).run P w = .ok (.value (a.eval x)) w := by
  unfold execOp
  rw [ho]
  rfl
theorem part_run {o : Oper} {t : Operand} {ix : Nat} (ho : o.op = .extract t ix) (a : Act) : (∃ v, ∀ w : World, (execOp a.eval o).run P w = .ok (.value v) w) ∨ ∀ (R : Value → World → Prop) (w : World), ¬ relUpon P R w ((execOp a.eval o).run P w) := by
  have e : execOp a.eval o = (do pure (.value (← Instr.extract (a.eval t) ix)) : Sem Next) := by
    unfold execOp
    rw [ho]
  rw [e]
  cases hx : a.eval t with
  | tuple vs =>
    cases hv : vs[ix]? with
    | some v => exact .inl ⟨v, fun w => by simp [Instr.extract, hv]⟩
    | none => exact .inr fun R w h => by simp [Instr.extract, hv, relUpon, stuck] at h
  | _ => exact .inr fun R w h => by simp [Instr.extract, relUpon, stuck] at h
theorem part_yields {o : Oper} (hp : partB o = true) {a : Act} {w : World} {R : Value → World → Prop} (h : relAt P ops o a w R) : ∃ v, Yields P ops o v a ∧ R v w := by
  unfold relAt at h
  unfold Yields
  by_cases hw : Region.wanted o (yielded ops a.tmps) = true
  · rw [if_pos hw] at h
    rcases part_op hp with ⟨x, ho⟩ | ⟨t, ix, ho⟩
    · rw [move_run ho a w] at h
      exact ⟨_, .inl ⟨hw, move_run ho a⟩, h.1⟩
    · rcases part_run (P := P) ho a with ⟨v, hv⟩ | hn
      · rw [hv w] at h
        exact ⟨v, .inl ⟨hw, hv⟩, h.1⟩
      · exact absurd h (hn R w)
  · rw [if_neg hw] at h
    exact ⟨undef, .inr ⟨by simpa using hw, rfl⟩, h⟩
theorem part_take (hB : relB ops = true) {a0 : Act} {Q : Exit → Act → World → Prop} (hQ : ∀ c a (d : Nat) v w, Q (.panic c) (a.put (some d) v) w → Q (.panic c) a w) {Rs : List Rel} {i : Nat} {o : Oper} (ho : ops[i]? = some o) (hp : partB o = true)
    (hfr : FreeAt ops i) (hop : opSpec P ops W a0 Rs i o) {fuel : Nat}
    {listed : Array Bool} {a : Act} {n : Held W} {r : Nat → Value} (hsz : listed.size = ops.size) (ha : Agree ops a0 a (fun j => listed.getD j false = true) r)
    (hr : ∀ j, listed.getD j false = true → (Rs.getD j fun _ _ => True) (r j) n.w) (hi : i ∈ Region.ready .any ops listed) (hcl : ∀ j o, ops[j]? = some o → listed.getD j false = true → ∀ e ∈ o.after, Region.binds .any e = true → listed.getD e.on false = true)
    (hK : ∀ a' (n' : Held W) r', Agree ops a0 a' (fun j => (listed.setIfInBounds i true).getD j false = true) r' → (∀ j, (listed.setIfInBounds i true).getD j false = true → (Rs.getD j fun _ _ => True) (r' j) n'.w) → wpAny P .any ops Q fuel (listed.setIfInBounds i true) a' n'.w) : wpAny P .any ops Q (fuel + 1) listed a n.w := by
  obtain ⟨hl, o', ho', hall⟩ := mem_ready.1 hi
  obtain rfl : o' = o := Option.some.inj (ho'.symm.trans ho)
  have hio : i < ops.size := (Array.getElem?_eq_some_iff.1 ho).1
  have hlf : ¬ listed.getD i false = true := by
    have hil : i < listed.size := by omega
    simp [hil] at hl ⊢
    exact hl
  have hspec := hop a _ r n ha (fun j hb => by
    obtain ⟨e, he, h1, h2⟩ := behind_iff.1 hb
    subst h1
    exact ⟨hall e he h2, hr _ (hall e he h2)⟩) (fun j oj hoj hb hlj => by
    obtain ⟨e, he, h1, h2⟩ := behind_iff.1 hb
    have := hcl j oj hoj hlj e he h2
    rw [h1] at this
    exact hlf this)
  obtain ⟨v, hy, hR⟩ := part_yields hp hspec
  have hset : ∀ j, ((listed.setIfInBounds i true).getD j false = true) ↔ (listed.getD j false = true ∨ j = i) := fun j => by
    by_cases e : i = j
    · subst e
      have hil : i < listed.size := by omega
      simp [hil]
    · rw [getD_set_ne false e]
      exact ⟨.inl, fun h => h.resolve_right (Ne.symm e)⟩
  have hfr' : ∀ j oj, ops[j]? = some oj → j ≠ i → listed.getD j true = false → (∀ e ∈ oj.after, Region.binds .any e = true → e.on ≠ i) → o'.apart ops oj = true := fun j oj hj hne hun hno =>
    hfr (fun j => listed.getD j false = true) o' hcl ho hall j oj hj hne (fun h => by
      have hjl : j < listed.size := by have := (Array.getElem?_eq_some_iff.1 hj).1; omega
      simp [hjl] at hun h
      rw [hun] at h
      cases h) hno
  refine wpAny_first ho (Region.noSelect_spec (relB_spec hB).1) (fun c a w h => ?_) fuel listed a n.w hfr' hi hy (hK _ n (fun j => if j = i then v else r j) ?_ fun j hj => ?_)
  · cases hd : o'.dst with
    | none => rw [hd] at h; exact h
    | some d => rw [hd] at h; exact hQ c a d v w h
  · have := ha.put hB ho hlf v
    have e : (fun j => listed.getD j false = true ∨ j = i) = (fun j => (listed.setIfInBounds i true).getD j false = true) := funext fun j => propext (hset j).symm
    rw [e] at this
    exact this
  · by_cases e : j = i
    · subst e; simp only [if_true]; exact hR
    · simp only [if_neg e]
      exact hr j (((hset j).1 hj).resolve_right e)
theorem anyRelL (hB : relB ops = true) {m : Nat} (hmn : m ≤ ops.size) (ps : List Nat) (hps : ∀ p ∈ ps, p < m ∧ (∃ o, ops[p]? = some o ∧ partB o = true) ∧ FreeAt ops p)
    (hT : ∀ L : Nat → Prop, Closed ops L → ∀ i o, m ≤ i → ops[i]? = some o → (∀ e ∈ o.after, Region.binds .any e = true → L e.on) → ∀ j, j < i → L j ∨ (j ∈ ps ∧ ∀ oj, ops[j]? = some oj → ∀ e ∈ oj.after, Region.binds .any e = true → L e.on))
    {a0 : Act} {Q : Exit → Act → World → Prop} (hQP : ∀ c a (d : Nat) v w, Q (.panic c) (a.put (some d) v) w → Q (.panic c) a w) {Rs : List Rel} (hst : ∀ R ∈ Rs, Stays R)
    (hop : ∀ i o, i < m → ops[i]? = some o → opSpec P ops W a0 Rs i o)
    (hQ : ∀ r (n : Held W) a, Agree ops a0 a (· < m) r → (∀ j, j < m → (Rs.getD j fun _ _ => True) (r j) n.w) → wpOps P ops Q (List.range' m (ops.size - m)) a n.w) :
    ∀ (fuel : Nat) (listed : Array Bool) (a : Act) (n : Held W) (r : Nat → Value), listed.size = ops.size → fuel + (List.range ops.size).countP (fun i => listed.getD i false) = ops.size →
      (∀ j, m ≤ j → listed.getD j false = false) → Closed ops (fun j => listed.getD j false = true) →
      Agree ops a0 a (fun j => listed.getD j false = true) r → (∀ j, listed.getD j false = true → (Rs.getD j fun _ _ => True) (r j) n.w) → wpAny P .any ops Q fuel listed a n.w := by
  have hunl : ∀ (listed : Array Bool) (i : Nat), listed.size = ops.size → i < ops.size → listed.getD i true = false → listed.getD i false = false := fun listed i hsz hi h => by
    have hil : i < listed.size := by omega
    simp [hil] at h ⊢
    exact h
  have hone : ∀ k listed, (∀ j, listed.getD j false = decide (j < k)) → listed.size = ops.size → m ≤ k → ∀ i ∈ Region.ready .any ops listed, i = k := by
    intro k listed hl hsz hmk i hi
    obtain ⟨h0, o, ho, hall⟩ := mem_ready.1 hi
    have hio : i < ops.size := (Array.getElem?_eq_some_iff.1 ho).1
    have h1 := hunl listed i hsz hio h0
    rw [hl] at h1
    have hki : ¬ i < k := by simpa using h1
    by_cases e : i = k
    · exact e
    · have hcl : Closed ops (fun j => listed.getD j false = true) := fun j o ho hj e he hb => by
        show listed.getD e.on false = true
        have hj : listed.getD j false = true := hj
        rw [hl] at hj ⊢
        have := ((relB_spec hB).2 j o ho).1 e he hb
        simp at hj ⊢
        omega
      rcases hT _ hcl i o (by omega) ho hall k (by omega) with this | this
      · rw [hl] at this
        simp at this
      · have := (hps k this.1).1
        omega
  have hall' : ∀ k' (listed' : Array Bool), k' < ops.size → listed'.size = ops.size → (∀ j, listed'.getD j false = decide (j < k')) → k' ∈ Region.ready .any ops listed' := by
    intro k listed hk hsz hl
    have hkl : k < listed.size := by omega
    refine mem_ready.2 ⟨?_, ops[k], Array.getElem?_eq_getElem hk, fun e he hb => ?_⟩
    · have := hl k
      simp [hkl] at this ⊢
      exact this
    · have := ((relB_spec hB).2 k _ (Array.getElem?_eq_getElem hk)).1 e he hb
      rw [hl]
      exact decide_eq_true this
  have hfin : ∀ (fuel : Nat) (listed : Array Bool) (a : Act) (n : Held W) (r : Nat → Value), listed.size = ops.size → fuel + (List.range ops.size).countP (fun i => listed.getD i false) = ops.size →
      (∀ j, listed.getD j false = decide (j < m)) → Agree ops a0 a (fun j => listed.getD j false = true) r → (∀ j, listed.getD j false = true → (Rs.getD j fun _ _ => True) (r j) n.w) → wpAny P .any ops Q fuel listed a n.w := by
    intro fuel listed a n r hsz hc hl ha hr
    have e1 : (fun i => listed.getD i false) = fun i => decide (i < m) := funext hl
    rw [e1, cnt_first m ops.size hmn] at hc
    have e2 : (fun j => listed.getD j false = true) = (· < m) := funext fun j => propext (by rw [hl]; simp)
    rw [e2] at ha
    have hq := hQ r n a ha fun j hj => hr j (by rw [hl]; exact decide_eq_true hj)
    obtain rfl : fuel = ops.size - m := by omega
    refine any_tail hone _ m listed a n.w (Nat.le_refl m) (by omega) hsz hl ?_ (fun k' l' _ h2 h3 h4 => hall' k' l' h2 h3 h4) hq
    by_cases e : ops.size - m = 0
    · exact .inl e
    · exact .inr (hall' m listed (by omega) hsz hl)
  intro fuel
  induction fuel with
  | zero =>
    intro listed a n r hsz hc hno hcl ha hr
    have hfull : ∀ j, j < ops.size → listed.getD j false = true := fun j hj => by
      have : (List.range ops.size).countP (fun i => listed.getD i false) = (List.range ops.size).length := by simpa using hc
      exact List.countP_eq_length.1 this j (List.mem_range.2 hj)
    refine hfin 0 listed a n r hsz hc (fun j => ?_) ha hr
    by_cases e : j < m
    · rw [hfull j (by omega)]; simp [e]
    · rw [hno j (by omega)]; simp [e]
  | succ fuel ih =>
    intro listed a n r hsz hc hno hcl ha hr
    by_cases hpre : ∀ j, j < m → listed.getD j false = true
    · refine hfin (fuel + 1) listed a n r hsz hc (fun j => ?_) ha hr
      by_cases e : j < m
      · rw [hpre j e]; simp [e]
      · rw [hno j (by omega)]; simp [e]
    · have hcnt : ∀ i, i ∈ Region.ready .any ops listed → fuel + (List.range ops.size).countP (fun j => (listed.setIfInBounds i true).getD j false) = ops.size := fun i hi => by
        obtain ⟨h0, o, ho, _⟩ := mem_ready.1 hi
        have hio : i < ops.size := (Array.getElem?_eq_some_iff.1 ho).1
        have hil : i < listed.size := by omega
        have h1 := hunl listed i hsz hio h0
        have e : (fun j => (listed.setIfInBounds i true).getD j false) = fun j => decide (j = i) || listed.getD j false := funext fun j => by
          by_cases e : i = j
          · subst e; simp [hil]
          · rw [getD_set_ne false e]; simp [Ne.symm e]
        rw [e, cnt_set _ i h1, if_pos hio]
        omega
      have hclo : ∀ i, i ∈ Region.ready .any ops listed → Closed ops (fun j => (listed.setIfInBounds i true).getD j false = true) := fun i hi j o ho hj e he hb => by
        by_cases e1 : i = j
        · subst e1
          obtain ⟨_, o', ho', hall⟩ := mem_ready.1 hi
          obtain rfl : o = o' := Option.some.inj (ho.symm.trans ho')
          exact getD_set_true (hall e he hb)
        · have hj : (listed.setIfInBounds i true).getD j false = true := hj
          rw [getD_set_ne false e1] at hj
          exact getD_set_true (hcl j o ho hj e he hb)
      by_cases hpr : ∃ p ∈ ps, p ∈ Region.ready .any ops listed
      · obtain ⟨p, hpm, hpi⟩ := hpr
        obtain ⟨hplt, ⟨o, ho, hpo⟩, hfr⟩ := hps p hpm
        exact part_take hB hQP ho hpo hfr (hop p o hplt ho) hsz ha hr hpi hcl fun a' n' r' ha' hr' => ih _ a' n' r' (by simpa using hsz) (hcnt p hpi) (fun j hj => by rw [getD_set_ne false (by omega)]; exact hno j hj) (hclo p hpi) ha' hr'
      · have hlow : ∀ i ∈ Region.ready .any ops listed, i < m := fun i hi => by
          obtain ⟨h0, o, ho, hall⟩ := mem_ready.1 hi
          rcases Nat.lt_or_ge i m with h | h
          · exact h
          · refine absurd (fun j hj => ?_) hpre
            rcases hT _ hcl i o h ho hall j (by omega) with h2 | ⟨h2, h3⟩
            · exact h2
            · by_cases hlj : listed.getD j false = true
              · exact hlj
              · refine absurd ⟨j, h2, mem_ready.2 ⟨?_, ops[j]'(by omega), Array.getElem?_eq_getElem (by omega), h3 _ (Array.getElem?_eq_getElem (by omega))⟩⟩ hpr
                have hil : j < listed.size := by omega
                simp [hil] at hlj ⊢
                exact hlj
        refine ⟨fun hnil => ?_, fun i hi => ?_⟩
        · exfalso
          refine hpre fun j hj => ?_
          have hall : ∀ q i, i < q → i < m → listed.getD i false = true := by
            intro q
            induction q with
            | zero => intro i h; omega
            | succ q ihq =>
              intro i hiq him
              by_cases hl : listed.getD i false = true
              · exact hl
              · exfalso
                have : i ∈ Region.ready .any ops listed := by
                  refine mem_ready.2 ⟨?_, ops[i], Array.getElem?_eq_getElem (by omega), fun e he hb => ?_⟩
                  · have hil : i < listed.size := by omega
                    simp [hil] at hl ⊢
                    exact hl
                  · have h1 := ((relB_spec hB).2 i ops[i] (Array.getElem?_eq_getElem (by omega))).1 e he hb
                    exact ihq e.on (by omega) (by omega)
                rw [hnil] at this
                cases this
          exact hall (j + 1) j (by omega) hj
        · have him := hlow i hi
          exact rel_step hB hst (fun o ho => hop i o him ho) hsz ha hr hi hcl fun a' n' r' ha' hr' => ih _ a' n' r' (by simpa using hsz) (hcnt i hi) (fun j hj => by rw [getD_set_ne false (by omega)]; exact hno j hj) (hclo i hi) ha' hr'
theorem region_rel_late {id : Nat} {Q : Exit → Act → World → Prop} {a : Act} {w : World} {l : List Oper} {b : Bool} (m : Nat) (ps : List Nat) (hm : P.follows .mixedOrders = true) (hB : relB l.toArray = true) (hT : lateB l m ps = true) (hQP : ∀ c a (d : Nat) v w, Q (.panic c) (a.put (some d) v) w → Q (.panic c) a w)
    (h : wpRel P l.toArray w (fun a' w' => wpList P l.toArray Q (l.drop m) a' w') (l.take m) 0 (fun _ => a) []) : (Code.region id l.toArray b).wp P Q a w := by
  unfold lateB at hT
  rw [Bool.and_eq_true, Bool.and_eq_true, decide_eq_true_eq, List.all_eq_true, List.all_eq_true] at hT
  obtain ⟨⟨hml, hps⟩, hT⟩ := hT
  have hps' : ∀ p ∈ ps, p < m ∧ (∃ o, l.toArray[p]? = some o ∧ partB o = true) ∧ FreeAt l.toArray p := fun p hp => by
    have h1 := hps p hp
    rw [Bool.and_eq_true, Bool.and_eq_true, decide_eq_true_eq] at h1
    refine ⟨h1.1.1, ?_, fun L o hc ho hL j oj hj hne hnl hno => Region.free_spec ho h1.2 j oj hj hne ?_ hno⟩
    rotate_left
    · have hpl : p < l.length := by simpa using (Array.getElem?_eq_some_iff.1 ho).1
      have hjl : j < l.length := by simpa using (Array.getElem?_eq_some_iff.1 hj).1
      have hM := masks_ok hc l [] (fun j => by simp) (fun i o h => absurd h (by simp)) p o (by simpa using hpl) ho hL j
      cases hb : ((masks l []).getD p 0).testBit j
      · simpa [hjl] using hb
      · exact absurd (hM hb) hnl
    have h2 := h1.1.2
    cases ho : l[p]? with
    | none => rw [ho] at h2; exact absurd h2 Bool.false_ne_true
    | some o => rw [ho] at h2; exact ⟨o, by simpa using ho, h2⟩
  have hlen : (l.take m).length = m := by rw [List.length_take]; omega
  have hsub : ∀ j, j < m → (l.take m)[j]? = l[j]? := fun j hj => by rw [List.getElem?_take, if_pos hj]
  obtain ⟨Rs, e1, e2, _, e4, e5⟩ := plan hB a _ (l.take m) 0 (fun _ => a) [] [] (fun r => r) (fun j hj => by rw [hsub j (by omega)]; simp) rfl (fun _ h => by cases h) (fun r => ⟨rfl, rfl, fun _ _ _ h => absurd h (by omega), fun _ _ => rfl⟩) (fun _ _ _ h => absurd h (by omega)) (fun _ h => by cases h) h
  rw [hlen, Nat.zero_add] at e1 e4 e5
  have hcl : ∀ L : Nat → Prop, Closed l.toArray L → ∀ i o, m ≤ i → l.toArray[i]? = some o → (∀ e ∈ o.after, Region.binds .any e = true → L e.on) → ∀ j, j < i → L j ∨ (j ∈ ps ∧ ∀ oj, l.toArray[j]? = some oj → ∀ e ∈ oj.after, Region.binds .any e = true → L e.on) := by
    intro L hc i o hmi ho hL j hj
    have hil : i < l.length := by simpa using (Array.getElem?_eq_some_iff.1 ho).1
    have h1 := hT i (List.mem_range.2 hil)
    rw [Bool.or_eq_true, decide_eq_true_eq, List.all_eq_true] at h1
    have h2 := (h1.resolve_left (by omega)) j (List.mem_range.2 hj)
    have hM := fun j h2 => masks_ok hc l [] (fun j => by simp) (fun i o h => absurd h (by simp)) i o (by simpa using hil) ho hL j h2
    rw [Bool.or_eq_true, Bool.and_eq_true] at h2
    rcases h2 with h2 | ⟨h2, h3⟩
    · exact .inl (hM j h2)
    · refine .inr ⟨by simpa using h2, fun oj hoj e he hb => ?_⟩
      have hoj' : l[j]? = some oj := by simpa using hoj
      rw [hoj'] at h3
      have h4 := List.all_eq_true.1 h3 e (by simpa using he)
      rw [Bool.or_eq_true, Bool.not_eq_true'] at h4
      rcases h4 with h4 | h4
      · rw [hb] at h4; cases h4
      · exact hM e.on h4
  have hany : ∀ n : Held w, wpAny P .any l.toArray Q l.toArray.size (Array.replicate l.toArray.size false) a n.w := fun n => by
    have hrep : ∀ j, (Array.replicate l.toArray.size false).getD j false = false := fun j => by
      rcases Nat.lt_or_ge j l.length with h' | h'
      · simp [h']
      · simp [Array.getElem?_eq_none, h']
    refine anyRelL (W := w) (a0 := a) (Rs := Rs) hB (by simpa using hml) ps hps' hcl hQP e2 (fun i o hi ho => e4 i o (Nat.zero_le _) ho hi) (fun r n a ha hr => ?_) _ _ _ n (fun _ => undef) (by simp) ?_ (fun j _ => hrep j) (fun j o ho hj => ?_) ?_ ?_
    · have := e5 r n a ha hr
      have hx := wpOps_eq_wpList (P := P) (ops := l.toArray) (Q := Q) (l.drop m) m (fun j => by simp [List.getElem?_drop])
      have hz : l.toArray.size - m = (l.drop m).length := by simp
      rw [hz, hx]
      exact this
    · have : (List.range l.toArray.size).countP (fun i => (Array.replicate l.toArray.size false).getD i false) = 0 := by
        rw [List.countP_eq_zero]
        intro j _
        rw [hrep j]; simp
      rw [this, Nat.add_zero]
    · exact absurd (show (Array.replicate l.toArray.size false).getD j false = true from hj) (by rw [hrep j]; simp)
    · exact ⟨rfl, rfl, fun j d _ h => absurd (show (Array.replicate l.toArray.size false).getD j false = true from h) (by rw [hrep j]; simp), fun _ _ => rfl⟩
    · exact fun j h => absurd h (by rw [hrep j]; simp)
  cases b
  · refine wp_region ?_
    rw [List.range_eq_range']
    exact any_lex hB _ 0 _ a w (by simp) (by simp) (fun j => by
      rcases Nat.lt_or_ge j l.length with h' | h'
      · simp [h']
      · simp [Array.getElem?_eq_none, h']) (hany ⟨w, Below.refl _ _⟩)
  · exact wp_region_any hm (hany ⟨w.drew, (Below.refl _ _).drew⟩)
end
end Go.Proofs.YtdfadbpepmkicaaGreat
namespace Go.Proofs.YtdfadbpepmkicaaGreat
open Go.RowKit
set_option linter.unusedVariables false
set_option linter.unusedSimpArgs false
theorem at_rel {P : Program} {ops : Array Oper} {a : Act} {w : World} {R : Value → World → Prop} {d0 : Option Tmp} {ty : TypeId} {x : Operand} {t : TypeId} {p : String} {af : Array Edge} {g : Option (Nat × Bool)}
    (h : relAt P ops { dst := d0, op := .load ty x, type := t, pos := p, after := af, guard := g } a w R) : relAt P ops { dst := d0, op := .load ty x, type := t, pos := p, after := af, guard := g } a w R := h
structure R5 where
  r0 : Int
  r1 : Int
  r2 : Int
  r3 : Int
  r4 : Int
def R5.z : R5 := ⟨0, 0, 0, 0, 0⟩
def R5.v (r : R5) : Value := .agg #[.int .i64 r.r0, .int .i64 r.r1, .int .i64 r.r2, .int .i64 r.r3, .int .i64 r.r4]
def R5.l (r : R5) : List Value := [.int .i64 r.r0, .int .i64 r.r1, .int .i64 r.r2, .int .i64 r.r3, .int .i64 r.r4]
def rtP (p : Pd) : Bool := rtB p.n0 p.n1 p.n2 p.n3 p.n4
def addEP (r : R5) (p : Pd) : Int := Rs.addE r.r0 r.r1 r.r2 r.r3 r.r4 p.n0 p.n1 p.n2 p.n3 p.n4
def addP (r : R5) (p : Pd) : R5 := ⟨Rs.sel (addEP r p) (r.r0 + p.n0), Rs.sel (addEP r p) (r.r1 + p.n1), Rs.sel (addEP r p) (r.r2 + p.n2), Rs.sel (addEP r p) (r.r3 + p.n3), Rs.sel (addEP r p) (r.r4 + p.n4)⟩
def usB (nm : ByteArray) : List Bd → Int → R5 → Int × R5
  | [], e, r => (e, r)
  | b :: l, e, r => if b.on = nm then (if rtP b.p = true then (if e = 0 then usB nm l (addEP r b.p) (addP r b.p) else usB nm l e r) else (12, R5.z)) else usB nm l e r
theorem usB_at {bs : List Bd} {k : Nat} {b : Bd} (h : bs[k]? = some b) (nm : ByteArray) (e : Int) (r : R5) :
    usB nm (bs.drop k) e r = if b.on = nm then (if rtP b.p = true then (if e = 0 then usB nm (bs.drop (k + 1)) (addEP r b.p) (addP r b.p) else usB nm (bs.drop (k + 1)) e r) else (12, R5.z)) else usB nm (bs.drop (k + 1)) e r := by
  obtain ⟨h1, h2⟩ := List.getElem?_eq_some_iff.1 h
  rw [List.drop_eq_getElem_cons h1, h2]
  rfl
def usedY (bs : List Bd) (nm : ByteArray) : Int × R5 := usB nm bs 0 R5.z
set_option maxRecDepth 100000 in
set_option maxHeartbeats 4000000 in
theorem used_any (a : Option Addr) (ka : Nat) (bs : List Bd) (mm : ByteArray) (w : World) (hF : BndL w a bs) (hl : bs.length ≤ 1000000) :
    Calls Tryz.prog 67 #[.slice a bs.length ka, .string mm] w fun e w' => e = .returned (.tuple #[(usedY bs mm).2.v, .int .i64 (usedY bs mm).1]) ∧ Below w.heap.size w w' := by
  obtain ⟨n, hn⟩ : ∃ n, bs.length = n := ⟨_, rfl⟩
  obtain ⟨U, hU⟩ : ∃ U, usedY bs mm = U := ⟨_, rfl⟩
  have HU := Lib.hid hU
  have HN := Lib.hid hn
  have HF := Lib.hid hF
  rw [hn] at hl ⊢
  rw [hU]
  clear hn hF hU
  go_enter Tryz.func67, Tryz.ntmps67
  go_wp2
  go_loopw [7, 11] (fun ve vi wr => ∃ (k : Nat) (e : Int) (r : R5), k ≤ n ∧ ve = .int .i64 e ∧ vi = .int .i64 k ∧ U = usB mm (bs.drop k) e r ∧ Blk wr w.heap.size 35 R5.z.l ∧ Blk wr (w.heap.size + 1) 35 r.l ∧ Below w.heap.size w wr) (fun _ vi _ => n - (intOf vi).toNat)
  case atStart => exact ⟨0, 0, R5.z, Nat.zero_le _, rfl, rfl, HU.out.symm, (Blk.new w 35 R5.z.l).alloc _, by have h9 := Blk.new (w.alloc (.cells R5.z.l.toArray 35)) 35 R5.z.l; rw [World.size_alloc] at h9; exact h9, by (repeat' (first | with_reducible exact Below.refl _ _ | with_reducible assumption | with_reducible refine Below.drew ?_ | with_reducible refine below_drewN' ?_ _ | with_reducible refine Below.alloc ?_ ?_ _ | with_reducible refine Below.setCell ?_ ?_ _ | with_reducible refine below_step (by assumption) ?_ ?_ | omega | (simp; done) | (simp; omega)))⟩
  case round =>
    obtain ⟨k, e, r, hk, rfl, rfl, hE, hX, hY, hB⟩ := hrel
    have HE := Lib.hid hE
    have HX := Lib.hid hX
    have HY := Lib.hid hY
    have HB := Lib.hid hB
    have hbz := hB.size
    by_cases hlt : k < n
    · obtain ⟨m, hm⟩ := mem_at (l := bs) (k := k) (by rw [HN.out]; exact hlt)
      obtain ⟨b, o, rfl, hb, hc⟩ := (HF.out.mono hB) (by rw [HN.out]; omega)
      have c20 : wr.cell? ⟨b, o + k * 21 + 20, none⟩ = some (.string m.on) := hc k m hm 20 (by decide)
      have c1 : wr.cell? ⟨b, o + k * 21 + 1, none⟩ = some (.int .i64 m.p.n0) := hc k m hm 1 (by decide)
      have c2 : wr.cell? ⟨b, o + k * 21 + 2, none⟩ = some (.int .i64 m.p.n1) := hc k m hm 2 (by decide)
      have c3 : wr.cell? ⟨b, o + k * 21 + 3, none⟩ = some (.int .i64 m.p.n2) := hc k m hm 3 (by decide)
      have c4 : wr.cell? ⟨b, o + k * 21 + 4, none⟩ = some (.int .i64 m.p.n3) := hc k m hm 4 (by decide)
      have c5 : wr.cell? ⟨b, o + k * 21 + 5, none⟩ = some (.int .i64 m.p.n4) := hc k m hm 5 (by decide)
      have hnx := usB_at hm mm e r
      obtain ⟨r0, r1, r2, r3, r4⟩ := r
      rw [← hE] at hnx
      obtain ⟨p, on⟩ := m
      dsimp only at c20 c1 c2 c3 c4 c5 hnx
      obtain ⟨n0, hn0⟩ : ∃ n0, p.n0 = n0 := ⟨_, rfl⟩
      obtain ⟨n1, hn1⟩ : ∃ n1, p.n1 = n1 := ⟨_, rfl⟩
      obtain ⟨n2, hn2⟩ : ∃ n2, p.n2 = n2 := ⟨_, rfl⟩
      obtain ⟨n3, hn3⟩ : ∃ n3, p.n3 = n3 := ⟨_, rfl⟩
      obtain ⟨n4, hn4⟩ : ∃ n4, p.n4 = n4 := ⟨_, rfl⟩
      simp only [rtP, addP, addEP, hn0, hn1, hn2, hn3, hn4] at c1 c2 c3 c4 c5 hnx
      have HRn := Lib.hid (show wr.rangeAt b (o + k * 21 + 1) [.int .i64 n0, .int .i64 n1, .int .i64 n2, .int .i64 n3, .int .i64 n4] from fun j v hj => by
        have hj5 : j < 5 := (List.getElem?_eq_some_iff.1 hj).1
        match j, hj5, hj with
        | 0, _, hj => exact c1.trans hj
        | 1, _, hj => exact c2.trans hj
        | 2, _, hj => exact c3.trans hj
        | 3, _, hj => exact c4.trans hj
        | 4, _, hj => exact c5.trans hj)
      clear hE hX hY hB hc hm hn0 hn1 hn2 hn3 hn4
      by_cases ho : on = mm
      · have q := str_yes ho
        rw [if_pos ho] at hnx
        clear ho
        cases hz : rtB n0 n1 n2 n3 n4 with
        | false =>
          rw [hz, if_neg (by decide)] at hnx
          have HNx := Lib.hid hnx
          have HZ := Lib.hid hz
          clear hnx hz
          go_wp2_with (go_at_call 99; (with_reducible refine (resright_any n0 n1 n2 n3 n4 _).mono ?_); rw [HZ.out]; rintro e w3 ⟨rfl, hb3⟩; have HB3 := Lib.hid (HB.out.trans (hb3.mono hbz)); have hz3 := hb3.size; have X3 := HX.out.below hb3; have q0 := X3.cell 0; have q1 := X3.cell 1; have q2 := X3.cell 2; have q3 := X3.cell 3; have q4 := X3.cell 4; have f0 := X3.frozen 0; have f1 := X3.frozen 1; have f2 := X3.frozen 2; have f3 := X3.frozen 3; have f4 := X3.frozen 4; have hl3 := X3.lt; dsimp only [R5.z, R5.l, List.getElem?_cons_zero, List.getElem?_cons_succ] at q0 q1 q2 q3 q4; clear hb3 X3)
          refine bodyPost_ret (v := .tuple #[R5.z.v, .int .i64 12]) (by simp [results, Tryz.results67, go_sem, R5.v, R5.z, *]) rfl ⟨by rw [HNx.out], (((((HB3.out.setCell (Nat.le_refl _) _).setCell (Nat.le_refl _) _).setCell (Nat.le_refl _) _).setCell (Nat.le_refl _) _).setCell (Nat.le_refl _) _)⟩
        | true =>
          rw [hz, if_pos rfl] at hnx
          by_cases he : e = 0
          · subst he
            rw [if_pos rfl] at hnx
            have HNx := Lib.hid hnx
            have HZ := Lib.hid hz
            clear hnx hz
            go_wp2_with (go_at_call 99; (with_reducible refine (resright_any n0 n1 n2 n3 n4 _).mono ?_); rw [HZ.out]; rintro e w3 ⟨rfl, hb3⟩; have HB3 := Lib.hid (HB.out.trans (hb3.mono hbz)); have hz3 := hb3.size; have X3 := Lib.hid (HX.out.below hb3); have Y3 := Lib.hid (HY.out.below hb3); have HRN := Lib.hid (rangeAt_mono HRn.out hb hb3); clear hb3)
            have hyl := Y3.out.lt
            have hb3 : b < w3.heap.size := by omega
            have HRY := Lib.hid (show w3.rangeAt (w.heap.size + 1) 0 [.int .i64 r0, .int .i64 r1, .int .i64 r2, .int .i64 r3, .int .i64 r4] from fun j v hj => by rw [Nat.zero_add, Y3.out.cell]; exact hj)
            clear c20 c1 c2 c3 c4 c5
            have hcH := held_cell
            refine region_rel_late 11 [10] (by kernel_rfl) (by kernel_rfl) (by kernel_rfl) ?_ ?_
            · exact fun _ _ _ _ _ h => h
            dsimp only [List.take, List.drop]
            repeat
              ((with_reducible refine relStep (fun K hK => ?_))
               (have HK := Lib.hid hK)
               clear hK
               (apply relInl
                · intro r n hf
                  have Hf := Lib.hid hf
                  clear hf
                  (first
                    | ((first | ((with_reducible refine at_rel (ty := 35) ?_); refine rel_load rfl (w.heap.size + 1) 0 rfl [.int .i64 r0, .int .i64 r1, .int .i64 r2, .int .i64 r3, .int .i64 r4] _ Tryz.underlying35 rfl (by kernel_rfl) (rangeAt_mono HRY.out hyl n.below) rfl) | ((with_reducible refine at_rel (ty := 35) ?_); refine rel_load rfl b (o + k * 21 + 1) rfl [.int .i64 n0, .int .i64 n1, .int .i64 n2, .int .i64 n3, .int .i64 n4] _ Tryz.underlying35 rfl (by kernel_rfl) (rangeAt_mono HRN.out hb3 n.below) rfl)))
                    | (unfold relAt
                       go_simp
                       (first | (refine relUpon_val ?_ (Below.refl _ _); exact rfl) | exact rfl | (refine relUpon_enter ?_; (go_at_call 100; (with_reducible refine (Rs.add_any r0 r1 r2 r3 r4 n0 n1 n2 n3 n4 _).mono ?_); rintro e w9 ⟨rfl, hb⟩; exact ⟨⟨_, rfl, rfl⟩, hb⟩)))))
                (simp only [Act.put, List.setIfInBounds_toArray, List.set_cons_zero, List.set_cons_succ])
                (with_reducible refine HK.out _ _ ?_)
                clear HK K))
            refine relNil ?_
            intro r9 n9 hx9
            clear hcH
            (try simp only [List.nil_append, List.cons_append, List.mem_cons, List.not_mem_nil, or_false, forall_eq_or_imp, forall_eq, false_implies, implies_true] at hx9)
            obtain ⟨w9, hb9⟩ := n9
            (try dsimp only)
            obtain ⟨hc9, hf9⟩ := bcell hb9
            have hz9 := hb9.size
            (try simp at hz9)
            have X9 := Lib.hid (X3.out.below hb9)
            have Y9 := Lib.hid (Y3.out.below hb9)
            have HB9 := Lib.hid (HB3.out.trans (hb9.mono HB3.out.size))
            have y0 := Y9.out.cell 0
            have y1 := Y9.out.cell 1
            have y2 := Y9.out.cell 2
            have y3 := Y9.out.cell 3
            have y4 := Y9.out.cell 4
            have f0 := Y9.out.frozen 0
            have f1 := Y9.out.frozen 1
            have f2 := Y9.out.frozen 2
            have f3 := Y9.out.frozen 3
            have f4 := Y9.out.frozen 4
            have hy9 := Y9.out.lt
            dsimp only [R5.l, List.getElem?_cons_zero, List.getElem?_cons_succ] at y0 y1 y2 y3 y4
            generalize Rs.addE r0 r1 r2 r3 r4 n0 n1 n2 n3 n4 = E at HNx ⊢
            generalize Rs.sel E (r0 + n0) = s0 at HNx ⊢
            generalize Rs.sel E (r1 + n1) = s1 at HNx ⊢
            generalize Rs.sel E (r2 + n2) = s2 at HNx ⊢
            generalize Rs.sel E (r3 + n3) = s3 at HNx ⊢
            generalize Rs.sel E (r4 + n4) = s4 at HNx ⊢
            clear hb9 hc9 hf9 hz9
            go_wp2
            go_roundw
            case rel => exact ⟨k + 1, E, ⟨s0, s1, s2, s3, s4⟩, by omega, rfl, by go_num, HNx.out, ((((X9.out.other (by show ¬ _ = _; simp) _).other (by show ¬ _ = _; simp) _).other (by show ¬ _ = _; simp) _).other (by show ¬ _ = _; simp) _).other (by show ¬ _ = _; simp) _, ((((Y9.out.set 0 _).set 1 _).set 2 _).set 3 _).set 4 _, ((((HB9.out.setCell (Nat.le_succ _) _).setCell (Nat.le_succ _) _).setCell (Nat.le_succ _) _).setCell (Nat.le_succ _) _).setCell (Nat.le_succ _) _⟩
            case measure => simp [intOf]; omega
          · have q0 : (e == 0) = false := by simpa using he
            rw [if_neg he] at hnx
            have HNx := Lib.hid hnx
            have HZ := Lib.hid hz
            clear hnx hz he
            go_wp2_with (go_at_call 99; (with_reducible refine (resright_any n0 n1 n2 n3 n4 _).mono ?_); rw [HZ.out]; rintro e w3 ⟨rfl, hb3⟩; have HB3 := Lib.hid (HB.out.trans (hb3.mono hbz)); have X3 := Lib.hid (HX.out.below hb3); have Y3 := Lib.hid (HY.out.below hb3); clear hb3)
            go_roundw
            case rel => exact ⟨k + 1, e, ⟨r0, r1, r2, r3, r4⟩, by omega, rfl, by go_num, HNx.out, X3.out, Y3.out, HB3.out⟩
            case measure => simp [intOf]; omega
      · have q := str_no ho
        rw [if_neg ho] at hnx
        have HNx := Lib.hid hnx
        clear hnx ho
        go_wp2
        go_roundw
        case rel => exact ⟨k + 1, e, ⟨r0, r1, r2, r3, r4⟩, by omega, rfl, by go_num, HNx.out, HX.out, HY.out, HB.out⟩
        case measure => simp [intOf]; omega
    · obtain rfl : k = n := by omega
      have hL : U = (e, r) := by rw [hE, List.drop_eq_nil_of_le (by rw [HN.out]; exact Nat.le_refl _)]; rfl
      have HL := Lib.hid hL
      obtain ⟨r0, r1, r2, r3, r4⟩ := r
      have q0 := HX.out.cell 0
      have q1 := HX.out.cell 1
      have q2 := HX.out.cell 2
      have q3 := HX.out.cell 3
      have q4 := HX.out.cell 4
      have f0 := HX.out.frozen 0
      have f1 := HX.out.frozen 1
      have f2 := HX.out.frozen 2
      have f3 := HX.out.frozen 3
      have f4 := HX.out.frozen 4
      have y0 := HY.out.cell 0
      have y1 := HY.out.cell 1
      have y2 := HY.out.cell 2
      have y3 := HY.out.cell 3
      have y4 := HY.out.cell 4
      have hl3 := HX.out.lt
      dsimp only [R5.z, R5.l, List.getElem?_cons_zero, List.getElem?_cons_succ] at q0 q1 q2 q3 q4 y0 y1 y2 y3 y4
      clear hE hX hY hB hL
      go_wp2
      refine bodyPost_ret (v := .tuple #[R5.v ⟨r0, r1, r2, r3, r4⟩, .int .i64 e]) (by simp [results, Tryz.results67, go_sem, R5.v, R5.z, *]) rfl ⟨by rw [HL.out], (((((HB.out.setCell (Nat.le_refl _) _).setCell (Nat.le_refl _) _).setCell (Nat.le_refl _) _).setCell (Nat.le_refl _) _).setCell (Nat.le_refl _) _)⟩
def lstP (a b : R5) : R5 := ⟨Rs.leastC a.r0 a.r1 a.r2 a.r3 a.r4 b.r0 b.r1 b.r2 b.r3 b.r4 a.r0 b.r0, Rs.leastC a.r0 a.r1 a.r2 a.r3 a.r4 b.r0 b.r1 b.r2 b.r3 b.r4 a.r1 b.r1, Rs.leastC a.r0 a.r1 a.r2 a.r3 a.r4 b.r0 b.r1 b.r2 b.r3 b.r4 a.r2 b.r2, Rs.leastC a.r0 a.r1 a.r2 a.r3 a.r4 b.r0 b.r1 b.r2 b.r3 b.r4 a.r3 b.r3, Rs.leastC a.r0 a.r1 a.r2 a.r3 a.r4 b.r0 b.r1 b.r2 b.r3 b.r4 a.r4 b.r4⟩
def subEP (a b : R5) : Int := Rs.subE a.r0 a.r1 a.r2 a.r3 a.r4 b.r0 b.r1 b.r2 b.r3 b.r4
def subP (a b : R5) : R5 := ⟨Rs.sel (subEP a b) (a.r0 - b.r0), Rs.sel (subEP a b) (a.r1 - b.r1), Rs.sel (subEP a b) (a.r2 - b.r2), Rs.sel (subEP a b) (a.r3 - b.r3), Rs.sel (subEP a b) (a.r4 - b.r4)⟩
def hasM (m : Mac) : R5 := ⟨m.r0, m.r1, m.r2, m.r3, m.r4⟩
def leftY (m : Mac) (bs : List Bd) : R5 := if (usedY bs m.nm).1 = 0 then subP (hasM m) (lstP (hasM m) (usedY bs m.nm).2) else R5.z
def NewR (N : Nat) (u : Value) (w : World) : Prop := ∃ X, u = .pointer (some ⟨X, 0, none⟩) ∧ N ≤ X ∧ Blk w X 35 R5.z.l
theorem NewR.mk {W : World} (n : Held W) : NewR W.heap.size (.pointer (some ⟨n.w.heap.size, 0, none⟩)) (n.w.alloc (.cells #[.int .i64 0, .int .i64 0, .int .i64 0, .int .i64 0, .int .i64 0] 35)) := ⟨_, rfl, n.below.size, Blk.new _ 35 R5.z.l⟩
theorem NewR.stays (N : Nat) : Stays (NewR N) := fun v w w' hb ⟨X, e, h, hB⟩ => ⟨X, e, h, hB.below hb⟩
set_option maxRecDepth 100000 in
set_option maxHeartbeats 4000000 in
theorem left_any (m : Mac) (a : Option Addr) (ka : Nat) (bs : List Bd) (w : World) (hF : BndL w a bs) (hl : bs.length ≤ 1000000) :
    Calls Tryz.prog 140 #[.agg #[.string (m).nm, .string (m).gp, .int .i64 (m).r0, .int .i64 (m).r1, .int .i64 (m).r2, .int .i64 (m).r3, .int .i64 (m).r4, .slice (m).la (m).labs.length (m).lk, .slice (m).ta (m).tnts.length (m).tk, .bool (m).rd], .slice a bs.length ka] w fun e w' => e = .returned ((leftY m bs).v) ∧ Below w.heap.size w w' := by
  obtain ⟨nm, gp, r0, r1, r2, r3, r4, la, lk, L, ta, tk, T, rd⟩ := m
  obtain ⟨n, hn⟩ : ∃ n, bs.length = n := ⟨_, rfl⟩
  have hUs := (fun W hW => used_any a ka bs nm W (hF.mono hW) hl)
  obtain ⟨U, hU⟩ : ∃ U, usedY bs nm = U := ⟨_, rfl⟩
  have hLY : leftY ⟨nm, gp, r0, r1, r2, r3, r4, la, lk, L, ta, tk, T, rd⟩ bs = if U.1 = 0 then subP ⟨r0, r1, r2, r3, r4⟩ (lstP ⟨r0, r1, r2, r3, r4⟩ U.2) else R5.z := by rw [← hU]; rfl
  rw [hU, hn] at hUs
  rw [hLY, hn]
  clear hn hF hU hLY
  obtain ⟨e, u0, u1, u2, u3, u4⟩ := U
  dsimp only [R5.v] at hUs
  have HUs := Lib.hid hUs
  clear hUs
  by_cases he : e = 0
  · subst he
    rw [if_pos rfl]
    obtain ⟨E, hE⟩ : ∃ E, lstP ⟨r0, r1, r2, r3, r4⟩ ⟨u0, u1, u2, u3, u4⟩ = E := ⟨_, rfl⟩
    obtain ⟨e0, e1, e2, e3, e4⟩ := E
    injection hE with h0 h1 h2 h3 h4
    have hLs := fun W => Rs.least_any r0 r1 r2 r3 r4 u0 u1 u2 u3 u4 W
    rw [show lstP ⟨r0, r1, r2, r3, r4⟩ ⟨u0, u1, u2, u3, u4⟩ = ⟨e0, e1, e2, e3, e4⟩ by unfold lstP; simp only [h0, h1, h2, h3, h4]]
    simp only [h0, h1, h2, h3, h4] at hLs
    obtain ⟨D, hD⟩ : ∃ D, subP ⟨r0, r1, r2, r3, r4⟩ ⟨e0, e1, e2, e3, e4⟩ = D := ⟨_, rfl⟩
    rw [hD]
    obtain ⟨d0, d1, d2, d3, d4⟩ := D
    injection hD with h0' h1' h2' h3' h4'
    have hSb := fun W => Rs.sub_any r0 r1 r2 r3 r4 e0 e1 e2 e3 e4 W
    simp only [subEP] at h0' h1' h2' h3' h4'
    simp only [h0', h1', h2', h3', h4'] at hSb
    obtain ⟨E, hE⟩ : ∃ E, Rs.subE r0 r1 r2 r3 r4 e0 e1 e2 e3 e4 = E := ⟨_, rfl⟩
    rw [hE] at hSb
    have HLs := Lib.hid hLs
    have HSb := Lib.hid hSb
    clear hLs hSb h0 h1 h2 h3 h4 h0' h1' h2' h3' h4' hE
    dsimp only [R5.v, R5.z]
    go_enter Tryz.func140, Tryz.ntmps140
    go_wp2_with (go_at_call 67; (with_reducible refine (HUs.out _ (by (repeat' (first | with_reducible exact Below.refl _ _ | with_reducible assumption | with_reducible refine Below.drew ?_ | with_reducible refine below_drewN' ?_ _ | with_reducible refine Below.alloc ?_ ?_ _ | with_reducible refine Below.setCell ?_ ?_ _ | with_reducible refine below_step (by assumption) ?_ ?_ | omega | (simp; done) | (simp; omega))))).mono ?_); rintro e w3 ⟨rfl, hb3⟩; have X3 := Lib.hid (((Blk.new w 57 [.string nm, .string gp, .int .i64 r0, .int .i64 r1, .int .i64 r2, .int .i64 r3, .int .i64 r4, .slice la L.length lk, .slice ta T.length tk, .bool rd]).alloc _).below hb3); have Y3 := Lib.hid ((by have h9 := Blk.new (w.alloc (.cells [.string nm, .string gp, .int .i64 r0, .int .i64 r1, .int .i64 r2, .int .i64 r3, .int .i64 r4, .slice la L.length lk, .slice ta T.length tk, .bool rd].toArray 57)) 35 R5.z.l; rw [World.size_alloc] at h9; exact h9 : Blk ((w.alloc (.cells [.string nm, .string gp, .int .i64 r0, .int .i64 r1, .int .i64 r2, .int .i64 r3, .int .i64 r4, .slice la L.length lk, .slice ta T.length tk, .bool rd].toArray 57)).alloc (.cells R5.z.l.toArray 35)) (w.heap.size + 1) 35 R5.z.l).below hb3); have HB3 := Lib.hid ((show Below w.heap.size w _ from by (repeat' (first | with_reducible exact Below.refl _ _ | with_reducible assumption | with_reducible refine Below.drew ?_ | with_reducible refine below_drewN' ?_ _ | with_reducible refine Below.alloc ?_ ?_ _ | with_reducible refine Below.setCell ?_ ?_ _ | with_reducible refine below_step (by assumption) ?_ ?_ | omega | (simp; done) | (simp; omega)))).trans (hb3.mono (by simp; omega))); have hz3 := hb3.size; (try simp at hz3); clear hb3)
    obtain ⟨W, hW⟩ : ∃ W, w3.alloc (.cells #[.int .i64 u0, .int .i64 u1, .int .i64 u2, .int .i64 u3, .int .i64 u4] 35) = W := ⟨_, rfl⟩
    have X4 := Lib.hid (hW ▸ X3.out.alloc (.cells #[.int .i64 u0, .int .i64 u1, .int .i64 u2, .int .i64 u3, .int .i64 u4] 35) : Blk W w.heap.size 57 [.string nm, .string gp, .int .i64 r0, .int .i64 r1, .int .i64 r2, .int .i64 r3, .int .i64 r4, .slice la L.length lk, .slice ta T.length tk, .bool rd])
    have Y4 := Lib.hid (hW ▸ Y3.out.alloc (.cells #[.int .i64 u0, .int .i64 u1, .int .i64 u2, .int .i64 u3, .int .i64 u4] 35) : Blk W (w.heap.size + 1) 35 R5.z.l)
    have Z4 := Lib.hid (hW ▸ Blk.new w3 35 [.int .i64 u0, .int .i64 u1, .int .i64 u2, .int .i64 u3, .int .i64 u4] : Blk W w3.heap.size 35 [.int .i64 u0, .int .i64 u1, .int .i64 u2, .int .i64 u3, .int .i64 u4])
    have HB4 := Lib.hid (hW ▸ HB3.out.alloc HB3.out.size (.cells #[.int .i64 u0, .int .i64 u1, .int .i64 u2, .int .i64 u3, .int .i64 u4] 35) : Below w.heap.size w W)
    rw [hW]
    obtain ⟨x, hx⟩ : ∃ x, w3.heap.size = x := ⟨_, rfl⟩
    rw [hx] at Z4 hz3 ⊢
    clear hW hx X3 Y3 HB3
    have HRX := Lib.hid (show W.rangeAt w.heap.size 2 [.int .i64 r0, .int .i64 r1, .int .i64 r2, .int .i64 r3, .int .i64 r4] from fun j v hj => by
      rw [X4.out.cell]
      have hj5 : j < 5 := (List.getElem?_eq_some_iff.1 hj).1
      match j, hj5, hj with
      | 0, _, hj => exact hj
      | 1, _, hj => exact hj
      | 2, _, hj => exact hj
      | 3, _, hj => exact hj
      | 4, _, hj => exact hj)
    have HRU := Lib.hid (show W.rangeAt x 0 [.int .i64 u0, .int .i64 u1, .int .i64 u2, .int .i64 u3, .int .i64 u4] from fun j v hj => by rw [Nat.zero_add, Z4.out.cell]; exact hj)
    have hxl := X4.out.lt
    have hzl := Z4.out.lt
    have hcH := held_cell
    refine region_rel_late 11 [9] (by kernel_rfl) (by kernel_rfl) (by kernel_rfl) ?_ ?_
    · exact fun _ _ _ _ _ h => h
    dsimp only [List.take, List.drop]
    repeat
      ((with_reducible refine relStep (fun K hK => ?_))
       (have HK := Lib.hid hK)
       clear hK
       (apply relInl
        · intro r n hf
          have Hf := Lib.hid hf
          clear hf
          (first
            | ((first | ((with_reducible refine at_rel (ty := 35) ?_); refine rel_load rfl w.heap.size 2 rfl [.int .i64 r0, .int .i64 r1, .int .i64 r2, .int .i64 r3, .int .i64 r4] _ Tryz.underlying35 rfl (by kernel_rfl) (rangeAt_mono HRX.out hxl n.below) rfl) | ((with_reducible refine at_rel (ty := 35) ?_); refine rel_load rfl x 0 rfl [.int .i64 u0, .int .i64 u1, .int .i64 u2, .int .i64 u3, .int .i64 u4] _ Tryz.underlying35 rfl (by kernel_rfl) (rangeAt_mono HRU.out hzl n.below) rfl)))
            | (unfold relAt
               go_simp
               (first | (refine relUpon_val ?_ (Below.refl _ _); exact rfl) | exact rfl | (refine relUpon_enter ?_; (first | (go_at_call 151; (with_reducible refine (HLs.out _).mono ?_); rintro e w9 ⟨rfl, hb⟩; exact ⟨⟨_, rfl, rfl⟩, hb⟩) | (go_at_call 150; (with_reducible refine (HSb.out _).mono ?_); rintro e w9 ⟨rfl, hb⟩; exact ⟨⟨_, rfl, rfl⟩, hb⟩))))))
        (simp only [Act.put, List.setIfInBounds_toArray, List.set_cons_zero, List.set_cons_succ])
        (with_reducible refine HK.out _ _ ?_)
        clear HK K))
    (with_reducible refine relStep (fun K hK => ?_))
    (have HK := Lib.hid hK)
    clear hK
    refine relInr (NewR W.heap.size) (NewR.stays _) (fun r n hf => ?_) ?_
    · have Hf := Lib.hid hf
      clear hf HK K
      unfold relAt
      (skip)
      go_simp
      ((refine relUpon_val ?_ ?_; exact NewR.mk n; exact (Below.refl _ _).alloc (Nat.le_refl _) _))
    (simp only [Act.put, List.setIfInBounds_toArray, List.set_cons_zero, List.set_cons_succ])
    (with_reducible refine HK.out _ _ ?_)
    clear HK K
    refine relNil ?_
    intro r9 n9 hx9
    clear hcH
    (try simp only [List.nil_append, List.cons_append, List.mem_cons, List.not_mem_nil, or_false, forall_eq_or_imp, forall_eq, false_implies, implies_true] at hx9)
    obtain ⟨w9, hb9⟩ := n9
    (try dsimp only)
    obtain ⟨hc9, hf9⟩ := bcell hb9
    have hz9 := hb9.size
    (try simp at hz9)
    obtain ⟨q, e9, hq, hB9⟩ := hx9
    have e9 : r9 10 = _ := e9
    dsimp only at hB9
    rw [e9]
    have Z9 := Lib.hid hB9
    have Y9 := Lib.hid (Y4.out.below hb9)
    have HB9 := Lib.hid (HB4.out.trans (hb9.mono HB4.out.size))
    have y0 := Y9.out.cell 0
    have f0 := Y9.out.frozen 0
    have z0 := Z9.out.cell 0
    have g0 := Z9.out.frozen 0
    have y1 := Y9.out.cell 1
    have f1 := Y9.out.frozen 1
    have z1 := Z9.out.cell 1
    have g1 := Z9.out.frozen 1
    have y2 := Y9.out.cell 2
    have f2 := Y9.out.frozen 2
    have z2 := Z9.out.cell 2
    have g2 := Z9.out.frozen 2
    have y3 := Y9.out.cell 3
    have f3 := Y9.out.frozen 3
    have z3 := Z9.out.cell 3
    have g3 := Z9.out.frozen 3
    have y4 := Y9.out.cell 4
    have f4 := Y9.out.frozen 4
    have z4 := Z9.out.cell 4
    have g4 := Z9.out.frozen 4
    have hyl := Y9.out.lt
    have hql := Z9.out.lt
    have hqw : w.heap.size + 1 < q := Nat.lt_of_lt_of_le Y4.out.lt hq
    dsimp only [R5.z, R5.l, List.getElem?_cons_zero, List.getElem?_cons_succ] at y0 y1 y2 y3 y4 z0 z1 z2 z3 z4
    clear hB9 e9 hb9 hc9 hf9 hz9 hq hxl hzl HRX HRU X4 Y4 Z4 HB4 hz3
    go_wp2
    refine bodyPost_ret (v := .agg #[.int .i64 d0, .int .i64 d1, .int .i64 d2, .int .i64 d3, .int .i64 d4]) (by simp [results, Tryz.results140, go_sem, *]) rfl ⟨rfl, ?_⟩
    have hqw' : w.heap.size ≤ q := by omega
    exact ((((((((((HB9.out.setCell hqw' _).setCell hqw' _).setCell hqw' _).setCell hqw' _).setCell hqw' _).setCell (Nat.le_succ _) _).setCell (Nat.le_succ _) _).setCell (Nat.le_succ _) _).setCell (Nat.le_succ _) _).setCell (Nat.le_succ _) _)
  · have q0 : (e == 0) = false := by simpa using he
    rw [if_neg he]
    dsimp only [R5.v, R5.z]
    go_enter Tryz.func140, Tryz.ntmps140
    go_wp2_with (go_at_call 67; (with_reducible refine (HUs.out _ (by (repeat' (first | with_reducible exact Below.refl _ _ | with_reducible assumption | with_reducible refine Below.drew ?_ | with_reducible refine below_drewN' ?_ _ | with_reducible refine Below.alloc ?_ ?_ _ | with_reducible refine Below.setCell ?_ ?_ _ | with_reducible refine below_step (by assumption) ?_ ?_ | omega | (simp; done) | (simp; omega))))).mono ?_); rintro e w3 ⟨rfl, hb3⟩; have X3 := Lib.hid (((Blk.new w 57 [.string nm, .string gp, .int .i64 r0, .int .i64 r1, .int .i64 r2, .int .i64 r3, .int .i64 r4, .slice la L.length lk, .slice ta T.length tk, .bool rd]).alloc _).below hb3); have Y3 := Lib.hid ((by have h9 := Blk.new (w.alloc (.cells [.string nm, .string gp, .int .i64 r0, .int .i64 r1, .int .i64 r2, .int .i64 r3, .int .i64 r4, .slice la L.length lk, .slice ta T.length tk, .bool rd].toArray 57)) 35 R5.z.l; rw [World.size_alloc] at h9; exact h9 : Blk ((w.alloc (.cells [.string nm, .string gp, .int .i64 r0, .int .i64 r1, .int .i64 r2, .int .i64 r3, .int .i64 r4, .slice la L.length lk, .slice ta T.length tk, .bool rd].toArray 57)).alloc (.cells R5.z.l.toArray 35)) (w.heap.size + 1) 35 R5.z.l).below hb3); have HB3 := Lib.hid ((show Below w.heap.size w _ from by (repeat' (first | with_reducible exact Below.refl _ _ | with_reducible assumption | with_reducible refine Below.drew ?_ | with_reducible refine below_drewN' ?_ _ | with_reducible refine Below.alloc ?_ ?_ _ | with_reducible refine Below.setCell ?_ ?_ _ | with_reducible refine below_step (by assumption) ?_ ?_ | omega | (simp; done) | (simp; omega)))).trans (hb3.mono (by simp; omega))); have hz3 := hb3.size; (try simp at hz3); clear hb3; have y0 := Y3.out.cell 0; have f0 := Y3.out.frozen 0; have y1 := Y3.out.cell 1; have f1 := Y3.out.frozen 1; have y2 := Y3.out.cell 2; have f2 := Y3.out.frozen 2; have y3 := Y3.out.cell 3; have f3 := Y3.out.frozen 3; have y4 := Y3.out.cell 4; have f4 := Y3.out.frozen 4; have hyl := Y3.out.lt; (dsimp only [R5.z, R5.l, List.getElem?_cons_zero, List.getElem?_cons_succ] at y0 y1 y2 y3 y4))
    refine bodyPost_ret (v := R5.z.v) (by simp [results, Tryz.results140, go_sem, R5.v, R5.z, *]) rfl ⟨rfl, ?_⟩
    exact (((((HB3.out.setCell (Nat.le_succ _) _).setCell (Nat.le_succ _) _).setCell (Nat.le_succ _) _).setCell (Nat.le_succ _) _).setCell (Nat.le_succ _) _).alloc (by simp; omega) _
def zoneT : ByteArray := ⟨#[122, 111, 110, 101]⟩
def zoneA (out : List ByteArray) (m : Mac) : List ByteArray := if Lb.getB m.labs zoneT = true then (if m.rd = true then (if out.any (strB (Lb.getV m.labs zoneT)) = true then out else out ++ [Lb.getV m.labs zoneT]) else out) else out
def zonesY (ms : List Mac) : List ByteArray := ms.foldl zoneA []
theorem zonesY_next {ms : List Mac} {k : Nat} {m : Mac} (h : ms[k]? = some m) : zonesY (ms.take (k + 1)) = zoneA (zonesY (ms.take k)) m := by
  unfold zonesY
  rw [List.take_add_one, h, List.foldl_append]
  rfl
def GivesT (w : World) (L : List ByteArray) (e : Ending) (w' : World) : Prop := (∃ v, e = .returned v ∧ w'.ownsRow w.heap.size 9 1 v L.length (L.flatMap scs)) ∧ Below w.heap.size w w'
set_option maxRecDepth 100000 in
set_option maxHeartbeats 4000000 in
theorem zones_any (a : Option Addr) (ka : Nat) (ms : List Mac) (w : World) (hF : MacL w a ms) (hI : ∀ m ∈ ms, MacIn w m) (hs : ∀ m ∈ ms, m.labs.length ≤ maxLen) (hl : ms.length ≤ 1000000) :
    Calls Tryz.prog 155 #[.slice a ms.length ka] w (GivesT w (zonesY ms)) := by
  obtain ⟨n, hn⟩ : ∃ n, ms.length = n := ⟨_, rfl⟩
  have HN := Lib.hid hn
  have HF := Lib.hid hF
  have HG := Lib.hid (fun m (hm : m ∈ ms) V (hV : Below w.heap.size w V) => Lb.get_any m.la m.lk m.labs zoneT V (((hI m hm).mono hV).here.1) (hs m hm))
  rw [hn] at hl ⊢
  clear hn hF hI hs
  obtain ⟨i0, hi, hz0, hz1, hz2⟩ := info_parts Tryz.info9
  have Hi := Lib.hid hi
  have Hz0 := Lib.hid hz0
  have Hz1 := Lib.hid hz1
  have Hz2 := Lib.hid hz2
  clear hi hz0 hz1 hz2
  go_enter Tryz.func155, Tryz.ntmps155
  go_wp2
  go_loopw [3, 9] (fun vo vi wr => ∃ (k : Nat) (L : List ByteArray), k ≤ n ∧ vi = .int .i64 k ∧ L = zonesY (ms.take k) ∧ L.length ≤ k ∧ wr.ownsRow w.heap.size 9 1 vo L.length (L.flatMap scs) ∧ Below w.heap.size w wr) (fun _ vi _ => n - (intOf vi).toNat)
  case atStart => exact ⟨0, [], Nat.zero_le _, rfl, rfl, Nat.le_refl _, World.ownsRow_nil _ _ _ _, by (repeat' (first | with_reducible exact Below.refl _ _ | with_reducible assumption | with_reducible refine Below.drew ?_ | with_reducible refine below_drewN' ?_ _ | with_reducible refine Below.alloc ?_ ?_ _ | with_reducible refine Below.setCell ?_ ?_ _ | with_reducible refine below_step (by assumption) ?_ ?_ | omega | (simp; done) | (simp; omega)))⟩
  case round =>
    obtain ⟨k, L, hk, rfl, hE, hLk, hO, hB⟩ := hrel
    have HE := Lib.hid hE
    have HB := Lib.hid hB
    have HO := Lib.hid hO
    have hbz := hB.size
    obtain ⟨ao, ko, rfl, -, hT⟩ := IsL.of_own scs_len (by decide) hO
    have HT := Lib.hid hT
    by_cases hlt : k < n
    · obtain ⟨m, hm⟩ := mem_at (l := ms) (k := k) (by rw [HN.out]; exact hlt)
      obtain ⟨b, o, rfl, hb, hc⟩ := (HF.out.mono hB) (by rw [HN.out]; omega)
      have c7 : wr.cell? ⟨b, o + k * 10 + 7, none⟩ = some (.slice m.la m.labs.length m.lk) := hc k m hm 7 (by decide)
      have c9 : wr.cell? ⟨b, o + k * 10 + 9, none⟩ = some (.bool m.rd) := hc k m hm 9 (by decide)
      have hnx := zonesY_next hm
      have HGm := Lib.hid (fun V hV => HG.out m (List.mem_of_getElem? hm) V hV)
      rw [← hE] at hnx
      clear hE hO hB hc hm hT
      obtain ⟨nm, gp, r0, r1, r2, r3, r4, la, lk, labs, ta, tk, tnts, rd⟩ := m
      dsimp only [zoneA] at c7 c9 hnx HGm
      obtain ⟨z, hz⟩ : ∃ z, Lb.getV labs zoneT = z := ⟨_, rfl⟩
      obtain ⟨g, hg⟩ : ∃ g, Lb.getB labs zoneT = g := ⟨_, rfl⟩
      rw [hz, hg] at hnx HGm
      unfold zoneT at HGm
      clear hz hg
      cases g with
      | false =>
        rw [if_neg (by decide)] at hnx
        have HNx := Lib.hid hnx.symm
        clear hnx
        go_wp2_with (go_at_call 154; (with_reducible refine (HGm.out _ HB.out).mono ?_); rintro e w3 ⟨rfl, hb3⟩; have HB3 := Lib.hid (HB.out.trans (hb3.mono hbz)); have HO3 := Lib.hid (own_kept HO.out hb3); have HT3 := Lib.hid (HT.out.mono hb3); clear hb3)
        go_roundw
        case rel => exact ⟨k + 1, L, by omega, by go_num, HNx.out, by omega, HO3.out, HB3.out⟩
        case measure => simp [intOf]; omega
      | true =>
        rw [if_pos rfl] at hnx
        cases rd with
        | false =>
          rw [if_neg (by decide)] at hnx
          have HNx := Lib.hid hnx.symm
          clear hnx
          go_wp2_with (go_at_call 154; (with_reducible refine (HGm.out _ HB.out).mono ?_); rintro e w3 ⟨rfl, hb3⟩; have HB3 := Lib.hid (HB.out.trans (hb3.mono hbz)); have hbz3 := Nat.le_trans hbz hb3.size; have HO3 := Lib.hid (own_kept HO.out hb3); have HT3 := Lib.hid (HT.out.mono hb3); have d9 : w3.cell? ⟨b, o + k * 10 + 9, none⟩ = _ := (hb3.cell (p := ⟨b, o + k * 10 + 9, none⟩) hb).trans c9; clear hb3)
          go_roundw
          case rel => exact ⟨k + 1, L, by omega, by go_num, HNx.out, by omega, HO3.out, HB3.out⟩
          case measure => simp [intOf]; omega
        | true =>
          rw [if_pos rfl] at hnx
          have HCs := Lib.hid (fun V (h : TxtL V ao L) => Lb.containss_any ao ko L z V h (by omega))
          cases hv : L.any (strB z) with
          | true =>
            rw [hv, if_pos rfl] at hnx
            rw [hv] at HCs
            have HNx := Lib.hid hnx.symm
            clear hnx hv
            go_wp2_with (first | (go_at_call 154; (with_reducible refine (HGm.out _ HB.out).mono ?_); rintro e w3 ⟨rfl, hb3⟩; have HB3 := Lib.hid (HB.out.trans (hb3.mono hbz)); have hbz3 := Nat.le_trans hbz hb3.size; have HO3 := Lib.hid (own_kept HO.out hb3); have HT3 := Lib.hid (HT.out.mono hb3); have d9 : w3.cell? ⟨b, o + k * 10 + 9, none⟩ = _ := (hb3.cell (p := ⟨b, o + k * 10 + 9, none⟩) hb).trans c9; clear hb3) | (go_at_call 157; (with_reducible refine (HCs.out _ HT3.out).mono ?_); rintro e w4 ⟨rfl, hb4⟩; have HB4 := Lib.hid (HB3.out.trans (hb4.mono hbz3)); have HO4 := Lib.hid (own_kept HO3.out hb4); clear hb4))
            go_roundw
            case rel => exact ⟨k + 1, L, by omega, by go_num, HNx.out, by omega, HO4.out, HB4.out⟩
            case measure => simp [intOf]; omega
          | false =>
            rw [hv, if_neg (by decide)] at hnx
            rw [hv] at HCs
            have HNx := Lib.hid hnx.symm
            clear hnx hv
            go_wp2_with (first
              | (go_at_call 154; (with_reducible refine (HGm.out _ HB.out).mono ?_); rintro e w3 ⟨rfl, hb3⟩; have HB3 := Lib.hid (HB.out.trans (hb3.mono hbz)); have hbz3 := Nat.le_trans hbz hb3.size; have HO3 := Lib.hid (own_kept HO.out hb3); have HT3 := Lib.hid (HT.out.mono hb3); have d9 : w3.cell? ⟨b, o + k * 10 + 9, none⟩ = _ := (hb3.cell (p := ⟨b, o + k * 10 + 9, none⟩) hb).trans c9; clear hb3)
              | (go_at_call 157; (with_reducible refine (HCs.out _ HT3.out).mono ?_); rintro e w4 ⟨rfl, hb4⟩; have HB4 := Lib.hid (HB3.out.trans (hb4.mono hbz3)); have hbz4 := Nat.le_trans hbz3 hb4.size; have HO4 := Lib.hid (own_kept HO3.out hb4); clear hb4)
              | (at_builtin; refine wpList_append_src rfl (.tmp 35) (.tmp 37) 46 rfl w.heap.size 9 i0 _ 1 16 Tryz.underlying46 Hi.out Hz0.out Hz1.out Hz2.out rfl (by decide) _ L.length (L.flatMap scs) rfl (HO4.out.alloc _) (some ⟨w4.heap.size, 0, none⟩) 1 1 (scs z) rfl rfl (fun q e => by injection e with e; rw [← e]; exact news_at _ _ _) (fun e => by cases e) (scs_one z) (by unfold maxLen; omega) (by omega) (by simp; omega) ?_; intro v6 w6 hown6 hgrow6; obtain ⟨a6, k6, rfl⟩ := own_sl hown6; have HB6 := Lib.hid (own_below (HO4.out.alloc _) (HB4.out.alloc hbz4 _) (by simp; omega) hgrow6); have HO6 := Lib.hid hown6; clear hown6 hgrow6))
            go_roundw
            case rel =>
              refine ⟨k + 1, L ++ [z], by omega, by go_num, HNx.out, by rw [List.length_append]; show L.length + 1 ≤ _; omega, ?_, HB6.out⟩
              rw [List.length_append, List.flatMap_append]
              have h9 := HO6.out
              simpa using h9
            case measure => simp [intOf]; omega
    · obtain rfl : k = n := by omega
      have hL : L = zonesY ms := by rw [hE, List.take_of_length_le (by rw [HN.out]; exact Nat.le_refl _)]
      have HL := Lib.hid hL
      clear hE hO hB hL
      go_wp2
      refine bodyPost_ret (v := .slice ao L.length ko) (by simp [results, Tryz.results155, go_sem]) rfl ⟨⟨_, rfl, by rw [← HL.out]; exact HO.out⟩, HB.out⟩
def labK : List Lab := [⟨⟨#[122, 111, 110, 101]⟩, ⟨#[97]⟩⟩]
def mK1 (B : Nat) : Mac := ⟨⟨#[109]⟩, emp, 1000, 0, 0, 3, 0, some ⟨B, 0, none⟩, 1, labK, none, 0, [], true⟩
def mK2 : Mac := ⟨⟨#[110]⟩, emp, 0, 0, 0, 0, 0, none, 0, [], none, 0, [], false⟩
def pK (nm : ByteArray) (c : Int) : Pd := ⟨nm, c, 0, 0, 1, 0, none, 0, [], none, 0, [], none, 0, [], none, 0, [], none, 0, [], none, 0, [], false, none, 0, [], 0, 0, emp, false, false, false⟩
def bK1 : Bd := ⟨pK ⟨#[112]⟩ 300, ⟨#[109]⟩⟩
def bK2 : Bd := ⟨pK ⟨#[113]⟩ 0, emp⟩
structure K9 (w : World) (B : Nat) : Prop where
  lb : LabL w (some ⟨B, 0, none⟩) labK
  ms : MacL w (some ⟨B + 1, 0, none⟩) [mK1 B, mK2]
  m1 : MacL w (some ⟨B + 1, 10, none⟩) [mK2]
  bs : BndL w (some ⟨B + 2, 0, none⟩) [bK1, bK2]
end Go.Proofs.YtdfadbpepmkicaaGreat
