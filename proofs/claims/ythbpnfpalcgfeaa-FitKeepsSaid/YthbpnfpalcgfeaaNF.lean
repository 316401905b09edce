/-
  Yards: Find, Place, Check, On.
-/
import Derived.Test.YthbpnfpalcgfeaaND
import Derived.Test.YthbpnfpalcgfeaaMG
import Derived.Test.YthbpnfpalcgfeaaNE
namespace Go.Proofs.Ythbpnfpalcgfeaa
open Go.RowKit
set_option linter.unusedVariables false
set_option linter.unusedSimpArgs false

/-- Where a name stands first. -/
def findN : List ByteArray → ByteArray → Nat → Int
  | [], _, _ => -1
  | y :: l, x, k => if y = x then (k : Int) else findN l x (k + 1)
def twiceN (l : List ByteArray) : Bool := (List.range l.length).any fun i => decide (findN l (l.getD i emp) 0 < (i : Int))
theorem findN_at {l : List ByteArray} {x y : ByteArray} {k : Nat} (h : l[k]? = some y) : findN (l.drop k) x k = if y = x then (k : Int) else findN (l.drop (k + 1)) x (k + 1) := by
  obtain ⟨h1, h2⟩ := List.getElem?_eq_some_iff.1 h
  rw [List.drop_eq_getElem_cons h1, h2]
  rfl
theorem findN_range : ∀ (l : List ByteArray) (x : ByteArray) (k : Nat), findN l x k = -1 ∨ ((k : Int) ≤ findN l x k ∧ findN l x k < k + l.length)
  | [], _, _ => .inl rfl
  | y :: l, x, k => by
    unfold findN
    split
    · right; rw [List.length_cons]; omega
    · rcases findN_range l x (k + 1) with h | h
      · exact .inl h
      · right; rw [List.length_cons]; omega
theorem nm_at {ms : List Mac} {k : Nat} {m : Mac} (h : ms[k]? = some m) : (ms.map Mac.nm)[k]? = some m.nm := by rw [List.getElem?_map, h]; rfl
theorem str_yes {a b : ByteArray} (h : a = b) : (a.toList == b.toList) = true := by rw [h]; simp
theorem str_no {a b : ByteArray} (h : ¬ a = b) : (a.toList == b.toList) = false := by rw [beq_eq_false_iff_ne]; exact fun e => h ((str_inj _ _).1 e)
set_option maxRecDepth 100000 in
set_option maxHeartbeats 2000000 in
theorem find_any (a : Option Addr) (ka : Nat) (ms : List Mac) (nm : ByteArray) (w : World) (hF : MacL w a ms) (hl : ms.length ≤ 1000000) :
    Calls Try.prog 22 #[.slice a ms.length ka, .string nm] w fun e w' => e = .returned (.int .i64 (findN (ms.map Mac.nm) nm 0)) ∧ Below w.heap.size w w' := by
  obtain ⟨n, hn⟩ : ∃ n, ms.length = n := ⟨_, rfl⟩
  obtain ⟨N, hN⟩ : ∃ N, ms.map Mac.nm = N := ⟨_, rfl⟩
  have HN := Lib.hid hn
  have HM := Lib.hid hN
  have HL := Lib.hid (show N.length = n by rw [← hN, List.length_map, hn])
  obtain ⟨R, hR⟩ : ∃ R, findN N nm 0 = R := ⟨_, rfl⟩
  have HR := Lib.hid (show findN (N.drop 0) nm 0 = R from hR)
  have HF := Lib.hid hF
  rw [hn] at hl ⊢
  rw [hN, hR]
  clear hn hN hR hF
  go_enter Try.func22, Try.ntmps22
  go_wp2
  go_loopw [8] (fun vi wr => ∃ k : Nat, k ≤ n ∧ vi = .int .i64 k ∧ findN (N.drop k) nm k = R ∧ wr = w) (fun vi _ => n - (intOf vi).toNat)
  case atStart => exact ⟨0, Nat.zero_le _, rfl, HR.out, rfl⟩
  case round =>
    clear HR
    obtain ⟨k, hk, rfl, hE, rfl⟩ := hrel
    have HE := Lib.hid hE
    clear hE
    by_cases hlt : k < n
    · obtain ⟨m, hm⟩ := mem_at (l := ms) (k := k) (by rw [HN.out]; exact hlt)
      obtain ⟨b, o, rfl, hb, hc⟩ := HF.out (by rw [HN.out]; omega)
      have c0 : wr.cell? ⟨b, o + k * 10, none⟩ = some (.string (Mac.nm m)) := hc k m hm 0 (by decide)
      have hmN := nm_at hm
      rw [HM.out] at hmN
      obtain ⟨y, hy⟩ : ∃ y, Mac.nm m = y := ⟨_, rfl⟩
      rw [hy] at c0 hmN
      have HNx := Lib.hid ((findN_at (x := nm) hmN).symm.trans HE.out)
      clear hc hm hmN hy
      by_cases he : y = nm
      · have q := str_yes he
        obtain rfl : R = (k : Int) := by have := HNx.out; rw [if_pos he] at this; exact this.symm
        clear he
        go_wp2
        go_ret
        exact ⟨rfl, Below.refl _ _⟩
      · have q := str_no he
        have HNy := Lib.hid (show findN (N.drop (k + 1)) nm (k + 1) = R by have := HNx.out; rw [if_neg he] at this; exact this)
        clear he
        go_wp2
        go_roundw
        case rel => exact ⟨k + 1, by omega, by go_num, HNy.out, by trivial⟩
        case measure => simp [intOf]; omega
    · obtain rfl : k = n := by omega
      obtain rfl : R = -1 := by
        rw [← HE.out, List.drop_of_length_le (by rw [HL.out]; exact Nat.le_refl _)]
        rfl
      go_wp2
      go_ret
      exact ⟨rfl, Below.refl _ _⟩
def pnm (b : Bd) : ByteArray := b.p.nm
theorem pnm_at {bs : List Bd} {k : Nat} {m : Bd} (h : bs[k]? = some m) : (bs.map pnm)[k]? = some (pnm m) := by rw [List.getElem?_map, h]; rfl
set_option maxRecDepth 100000 in
set_option maxHeartbeats 2000000 in
theorem place_any (a : Option Addr) (ka : Nat) (bs : List Bd) (nm : ByteArray) (w : World) (hF : BndL w a bs) (hl : bs.length ≤ 1000000) :
    Calls Try.prog 42 #[.slice a bs.length ka, .string nm] w fun e w' => e = .returned (.int .i64 (findN (bs.map pnm) nm 0)) ∧ Below w.heap.size w w' := by
  obtain ⟨n, hn⟩ : ∃ n, bs.length = n := ⟨_, rfl⟩
  obtain ⟨N, hN⟩ : ∃ N, bs.map pnm = N := ⟨_, rfl⟩
  have HN := Lib.hid hn
  have HM := Lib.hid hN
  have HL := Lib.hid (show N.length = n by rw [← hN, List.length_map, hn])
  obtain ⟨R, hR⟩ : ∃ R, findN N nm 0 = R := ⟨_, rfl⟩
  have HR := Lib.hid (show findN (N.drop 0) nm 0 = R from hR)
  have HF := Lib.hid hF
  rw [hn] at hl ⊢
  rw [hN, hR]
  clear hn hN hR hF
  go_enter Try.func42, Try.ntmps42
  go_wp2
  go_loopw [8] (fun vi wr => ∃ k : Nat, k ≤ n ∧ vi = .int .i64 k ∧ findN (N.drop k) nm k = R ∧ wr = w) (fun vi _ => n - (intOf vi).toNat)
  case atStart => exact ⟨0, Nat.zero_le _, rfl, HR.out, rfl⟩
  case round =>
    clear HR
    obtain ⟨k, hk, rfl, hE, rfl⟩ := hrel
    have HE := Lib.hid hE
    clear hE
    by_cases hlt : k < n
    · obtain ⟨m, hm⟩ := mem_at (l := bs) (k := k) (by rw [HN.out]; exact hlt)
      obtain ⟨b, o, rfl, hb, hc⟩ := HF.out (by rw [HN.out]; omega)
      have c0 : wr.cell? ⟨b, o + k * 21, none⟩ = some (.string (pnm m)) := hc k m hm 0 (by decide)
      have hmN := pnm_at hm
      rw [HM.out] at hmN
      obtain ⟨y, hy⟩ : ∃ y, pnm m = y := ⟨_, rfl⟩
      rw [hy] at c0 hmN
      have HNx := Lib.hid ((findN_at (x := nm) hmN).symm.trans HE.out)
      clear hc hm hmN hy
      by_cases he : y = nm
      · have q := str_yes he
        obtain rfl : R = (k : Int) := by have := HNx.out; rw [if_pos he] at this; exact this.symm
        clear he
        go_wp2
        go_ret
        exact ⟨rfl, Below.refl _ _⟩
      · have q := str_no he
        have HNy := Lib.hid (show findN (N.drop (k + 1)) nm (k + 1) = R by have := HNx.out; rw [if_neg he] at this; exact this)
        clear he
        go_wp2
        go_roundw
        case rel => exact ⟨k + 1, by omega, by go_num, HNy.out, by trivial⟩
        case measure => simp [intOf]; omega
    · obtain rfl : k = n := by omega
      obtain rfl : R = -1 := by
        rw [← HE.out, List.drop_of_length_le (by rw [HL.out]; exact Nat.le_refl _)]
        rfl
      go_wp2
      go_ret
      exact ⟨rfl, Below.refl _ _⟩
set_option maxRecDepth 100000 in
set_option maxHeartbeats 2000000 in
theorem mtwice_any (a : Option Addr) (ka : Nat) (ms : List Mac) (w : World) (hF : MacL w a ms) (hl : ms.length ≤ 1000000) :
    Calls Try.prog 47 #[.slice a ms.length ka] w fun e w' => e = .returned (.bool (twiceN (ms.map Mac.nm))) ∧ Below w.heap.size w w' := by
  obtain ⟨n, hn⟩ : ∃ n, ms.length = n := ⟨_, rfl⟩
  obtain ⟨N, hN⟩ : ∃ N, ms.map Mac.nm = N := ⟨_, rfl⟩
  have HC := Lib.hid (fun (x : ByteArray) (V : World) (hV : MacL V a ms) => find_any a ka ms x V hV hl)
  have HN := Lib.hid hn
  have HM := Lib.hid hN
  have HL := Lib.hid (show N.length = n by rw [← hN, List.length_map, hn])
  obtain ⟨R, hR⟩ : ∃ R, twiceN N = R := ⟨_, rfl⟩
  have HR := Lib.hid hR
  have HF := Lib.hid hF
  rw [hn, hN] at HC
  rw [hn] at hl ⊢
  rw [hN, hR]
  clear hn hN hR hF
  go_enter Try.func47, Try.ntmps47
  go_wp2
  go_loopw [6] (fun vi wr => ∃ k : Nat, k ≤ n ∧ vi = .int .i64 k ∧ ((List.range k).any fun i => decide (findN N (N.getD i emp) 0 < (i : Int))) = false ∧ Below w.heap.size w wr) (fun vi _ => n - (intOf vi).toNat)
  case atStart => exact ⟨0, Nat.zero_le _, rfl, rfl, by (repeat' (first | with_reducible exact Below.refl _ _ | with_reducible assumption | with_reducible refine Below.drew ?_ | with_reducible refine below_drewN' ?_ _ | with_reducible refine Below.alloc ?_ ?_ _ | with_reducible refine Below.setCell ?_ ?_ _ | with_reducible refine below_step (by assumption) ?_ ?_ | omega | (simp; done) | (simp; omega)))⟩
  case round =>
    obtain ⟨k, hk, rfl, hE, hB⟩ := hrel
    have HE := Lib.hid hE
    have HB := Lib.hid hB
    have hbz := hB.size
    by_cases hlt : k < n
    · obtain ⟨m, hm⟩ := mem_at (l := ms) (k := k) (by rw [HN.out]; exact hlt)
      obtain ⟨b, o, rfl, hb, hc⟩ := HF.out (by rw [HN.out]; omega)
      have c0 : wr.cell? ⟨b, o + k * 10, none⟩ = some (.string (Mac.nm m)) := by rw [hB.cell (p := ⟨b, o + k * 10, none⟩) hb]; exact hc k m hm 0 (by decide)
      have hbw : b < wr.heap.size := by omega
      have hmN := nm_at hm
      rw [HM.out] at hmN
      obtain ⟨y, hy⟩ : ∃ y, Mac.nm m = y := ⟨_, rfl⟩
      rw [hy] at c0 hmN
      have hgd : N.getD k emp = y := by rw [List.getD_eq_getElem?_getD, hmN]; rfl
      obtain ⟨z, hz⟩ : ∃ z, findN N y 0 = z := ⟨_, rfl⟩
      have HCy := Lib.hid (HC.out y)
      rw [hz] at HCy
      by_cases hd : z < (k : Int)
      · have q : decide (z < (k : Int)) = true := decide_eq_true hd
        obtain rfl : R = true := by
          rw [← HR.out]
          unfold twiceN
          rw [List.any_eq_true]
          exact ⟨k, List.mem_range.2 (by rw [HL.out]; exact hlt), by rw [hgd, hz]; exact q⟩
        clear hE hB hc hm hmN hy hgd hz hd
        go_wp2_with (go_at_call 22; (with_reducible refine (HCy.out _ (HF.out.mono HB.out)).mono ?_); rintro e w3 ⟨rfl, hb3⟩; have HB3 := Lib.hid (HB.out.trans (hb3.mono hbz)); clear hb3)
        go_ret
        exact ⟨rfl, HB3.out⟩
      · have q : decide (z < (k : Int)) = false := decide_eq_false hd
        have HE2 := Lib.hid (show ((List.range (k + 1)).any fun i => decide (findN N (N.getD i emp) 0 < (i : Int))) = false by rw [List.range_succ, List.any_append, HE.out]; simp only [List.any_cons, List.any_nil, Bool.or_false, Bool.false_or]; rw [hgd, hz]; exact q)
        clear hE hB hc hm hmN hy hgd hz hd
        go_wp2_with (go_at_call 22; (with_reducible refine (HCy.out _ (HF.out.mono HB.out)).mono ?_); rintro e w3 ⟨rfl, hb3⟩; have HB3 := Lib.hid (HB.out.trans (hb3.mono hbz)); clear hb3)
        go_roundw
        case rel => exact ⟨k + 1, by omega, by go_num, HE2.out, HB3.out⟩
        case measure => simp [intOf]; omega
    · obtain rfl : k = n := by omega
      obtain rfl : R = false := by
        rw [← HR.out]
        unfold twiceN
        rw [HL.out]
        exact HE.out
      clear hE hB
      go_wp2
      go_ret
      exact ⟨rfl, HB.out⟩
set_option maxRecDepth 100000 in
set_option maxHeartbeats 2000000 in
theorem ptwice_any (a : Option Addr) (ka : Nat) (bs : List Bd) (w : World) (hF : BndL w a bs) (hl : bs.length ≤ 1000000) :
    Calls Try.prog 48 #[.slice a bs.length ka] w fun e w' => e = .returned (.bool (twiceN (bs.map pnm))) ∧ Below w.heap.size w w' := by
  obtain ⟨n, hn⟩ : ∃ n, bs.length = n := ⟨_, rfl⟩
  obtain ⟨N, hN⟩ : ∃ N, bs.map pnm = N := ⟨_, rfl⟩
  have HC := Lib.hid (fun (x : ByteArray) (V : World) (hV : BndL V a bs) => place_any a ka bs x V hV hl)
  have HN := Lib.hid hn
  have HM := Lib.hid hN
  have HL := Lib.hid (show N.length = n by rw [← hN, List.length_map, hn])
  obtain ⟨R, hR⟩ : ∃ R, twiceN N = R := ⟨_, rfl⟩
  have HR := Lib.hid hR
  have HF := Lib.hid hF
  rw [hn, hN] at HC
  rw [hn] at hl ⊢
  rw [hN, hR]
  clear hn hN hR hF
  go_enter Try.func48, Try.ntmps48
  go_wp2
  go_loopw [6] (fun vi wr => ∃ k : Nat, k ≤ n ∧ vi = .int .i64 k ∧ ((List.range k).any fun i => decide (findN N (N.getD i emp) 0 < (i : Int))) = false ∧ Below w.heap.size w wr) (fun vi _ => n - (intOf vi).toNat)
  case atStart => exact ⟨0, Nat.zero_le _, rfl, rfl, by (repeat' (first | with_reducible exact Below.refl _ _ | with_reducible assumption | with_reducible refine Below.drew ?_ | with_reducible refine below_drewN' ?_ _ | with_reducible refine Below.alloc ?_ ?_ _ | with_reducible refine Below.setCell ?_ ?_ _ | with_reducible refine below_step (by assumption) ?_ ?_ | omega | (simp; done) | (simp; omega)))⟩
  case round =>
    obtain ⟨k, hk, rfl, hE, hB⟩ := hrel
    have HE := Lib.hid hE
    have HB := Lib.hid hB
    have hbz := hB.size
    by_cases hlt : k < n
    · obtain ⟨m, hm⟩ := mem_at (l := bs) (k := k) (by rw [HN.out]; exact hlt)
      obtain ⟨b, o, rfl, hb, hc⟩ := HF.out (by rw [HN.out]; omega)
      have c0 : wr.cell? ⟨b, o + k * 21, none⟩ = some (.string (pnm m)) := by rw [hB.cell (p := ⟨b, o + k * 21, none⟩) hb]; exact hc k m hm 0 (by decide)
      have hbw : b < wr.heap.size := by omega
      have hmN := pnm_at hm
      rw [HM.out] at hmN
      obtain ⟨y, hy⟩ : ∃ y, pnm m = y := ⟨_, rfl⟩
      rw [hy] at c0 hmN
      have hgd : N.getD k emp = y := by rw [List.getD_eq_getElem?_getD, hmN]; rfl
      obtain ⟨z, hz⟩ : ∃ z, findN N y 0 = z := ⟨_, rfl⟩
      have HCy := Lib.hid (HC.out y)
      rw [hz] at HCy
      by_cases hd : z < (k : Int)
      · have q : decide (z < (k : Int)) = true := decide_eq_true hd
        obtain rfl : R = true := by
          rw [← HR.out]
          unfold twiceN
          rw [List.any_eq_true]
          exact ⟨k, List.mem_range.2 (by rw [HL.out]; exact hlt), by rw [hgd, hz]; exact q⟩
        clear hE hB hc hm hmN hy hgd hz hd
        go_wp2_with (go_at_call 42; (with_reducible refine (HCy.out _ (HF.out.mono HB.out)).mono ?_); rintro e w3 ⟨rfl, hb3⟩; have HB3 := Lib.hid (HB.out.trans (hb3.mono hbz)); clear hb3)
        go_ret
        exact ⟨rfl, HB3.out⟩
      · have q : decide (z < (k : Int)) = false := decide_eq_false hd
        have HE2 := Lib.hid (show ((List.range (k + 1)).any fun i => decide (findN N (N.getD i emp) 0 < (i : Int))) = false by rw [List.range_succ, List.any_append, HE.out]; simp only [List.any_cons, List.any_nil, Bool.or_false, Bool.false_or]; rw [hgd, hz]; exact q)
        clear hE hB hc hm hmN hy hgd hz hd
        go_wp2_with (go_at_call 42; (with_reducible refine (HCy.out _ (HF.out.mono HB.out)).mono ?_); rintro e w3 ⟨rfl, hb3⟩; have HB3 := Lib.hid (HB.out.trans (hb3.mono hbz)); clear hb3)
        go_roundw
        case rel => exact ⟨k + 1, by omega, by go_num, HE2.out, HB3.out⟩
        case measure => simp [intOf]; omega
    · obtain rfl : k = n := by omega
      obtain rfl : R = false := by
        rw [← HR.out]
        unfold twiceN
        rw [HL.out]
        exact HE.out
      clear hE hB
      go_wp2
      go_ret
      exact ⟨rfl, HB.out⟩
def onB (N : List ByteArray) (b : Bd) : Bool := decide (b.on = emp) || decide (0 ≤ findN N b.on 0)
set_option maxRecDepth 100000 in
set_option maxHeartbeats 2000000 in
theorem rbind_any (a : Option Addr) (ka : Nat) (ms : List Mac) (c : Option Addr) (kc : Nat) (bs : List Bd) (w : World) (hF : MacL w a ms) (hG : BndL w c bs) (hl : ms.length ≤ 1000000) (hl2 : bs.length ≤ 1000000) :
    Calls Try.prog 49 #[.slice a ms.length ka, .slice c bs.length kc] w fun e w' => e = .returned (.bool (bs.all (onB (ms.map Mac.nm)))) ∧ Below w.heap.size w w' := by
  obtain ⟨n, hn⟩ : ∃ n, bs.length = n := ⟨_, rfl⟩
  obtain ⟨N, hN⟩ : ∃ N, ms.map Mac.nm = N := ⟨_, rfl⟩
  have HC := Lib.hid (fun (x : ByteArray) (V : World) (hV : MacL V a ms) => find_any a ka ms x V hV hl)
  have HN := Lib.hid hn
  obtain ⟨R, hR⟩ : ∃ R, bs.all (onB N) = R := ⟨_, rfl⟩
  have HR := Lib.hid hR
  have HF := Lib.hid hF
  have HG := Lib.hid hG
  rw [hN] at HC
  rw [hn] at hl2 ⊢
  rw [hN, hR]
  clear hn hN hR hF hG
  go_enter Try.func49, Try.ntmps49
  go_wp2
  go_loopw [8] (fun vi wr => ∃ k : Nat, k ≤ n ∧ vi = .int .i64 k ∧ (bs.take k).all (onB N) = true ∧ Below w.heap.size w wr) (fun vi _ => n - (intOf vi).toNat)
  case atStart => exact ⟨0, Nat.zero_le _, rfl, rfl, by (repeat' (first | with_reducible exact Below.refl _ _ | with_reducible assumption | with_reducible refine Below.drew ?_ | with_reducible refine below_drewN' ?_ _ | with_reducible refine Below.alloc ?_ ?_ _ | with_reducible refine Below.setCell ?_ ?_ _ | with_reducible refine below_step (by assumption) ?_ ?_ | omega | (simp; done) | (simp; omega)))⟩
  case round =>
    obtain ⟨k, hk, rfl, hE, hB⟩ := hrel
    have HE := Lib.hid hE
    have HB := Lib.hid hB
    have hbz := hB.size
    by_cases hlt : k < n
    · obtain ⟨m, hm⟩ := mem_at (l := bs) (k := k) (by rw [HN.out]; exact hlt)
      obtain ⟨b, o, rfl, hb, hc⟩ := HG.out (by rw [HN.out]; omega)
      have c0 : wr.cell? ⟨b, o + k * 21 + 20, none⟩ = some (.string m.on) := by rw [hB.cell (p := ⟨b, o + k * 21 + 20, none⟩) hb]; exact hc k m hm 20 (by decide)
      have hbw : b < wr.heap.size := by omega
      have Hm := Lib.hid hm
      obtain ⟨y, hy⟩ : ∃ y, m.on = y := ⟨_, rfl⟩
      rw [hy] at c0
      have hon : onB N m = (decide (y = emp) || decide (0 ≤ findN N y 0)) := by unfold onB; rw [hy]
      have HCy := Lib.hid (HC.out y)
      obtain ⟨z, hz⟩ : ∃ z, findN N y 0 = z := ⟨_, rfl⟩
      rw [hz] at HCy hon
      have HOn := Lib.hid hon
      clear hE hB hc hm hy hz hon
      by_cases he : y = emp
      · obtain ⟨q1, q2, q3, q4⟩ := emp_lits he
        have HE2 := Lib.hid (all_take1 (P := onB N) Hm.out (by rw [HOn.out, decide_eq_true he]; rfl) HE.out)
        clear he
        go_wp2
        go_roundw
        case rel => exact ⟨k + 1, by omega, by go_num, HE2.out, HB.out⟩
        case measure => simp [intOf]; omega
      · obtain ⟨q1, q2, q3, q4⟩ := emp_litn he
        by_cases hd : z < 0
        · have q5 : decide (z < 0) = true := decide_eq_true hd
          obtain rfl : R = false := by
            rw [← HR.out]
            exact all_bad (P := onB N) Hm.out (by rw [HOn.out, decide_eq_false he, decide_eq_false (by omega)]; rfl)
          clear he hd
          go_wp2_with (go_at_call 22; (with_reducible refine (HCy.out _ (HF.out.mono HB.out)).mono ?_); rintro e w3 ⟨rfl, hb3⟩; have HB3 := Lib.hid (HB.out.trans (hb3.mono hbz)); clear hb3)
          go_ret
          exact ⟨rfl, HB3.out⟩
        · have q5 : decide (z < 0) = false := decide_eq_false hd
          have HE2 := Lib.hid (all_take1 (P := onB N) Hm.out (by rw [HOn.out, decide_eq_true (show 0 ≤ z by omega)]; simp) HE.out)
          clear he hd
          go_wp2_with (go_at_call 22; (with_reducible refine (HCy.out _ (HF.out.mono HB.out)).mono ?_); rintro e w3 ⟨rfl, hb3⟩; have HB3 := Lib.hid (HB.out.trans (hb3.mono hbz)); clear hb3)
          go_roundw
          case rel => exact ⟨k + 1, by omega, by go_num, HE2.out, HB3.out⟩
          case measure => simp [intOf]; omega
    · obtain rfl : k = n := by omega
      obtain rfl : R = true := by rw [← HR.out]; exact all_done (P := onB N) HN.out HE.out
      clear hE hB
      go_wp2
      go_ret
      exact ⟨rfl, HB.out⟩
/-- A machine that may stand in a yard. -/
def okM (m : Mac) : Bool := !decide (m.nm = emp) && rightM m
set_option maxRecDepth 100000 in
set_option maxHeartbeats 2000000 in
theorem rmacs_any (a : Option Addr) (ka : Nat) (ms : List Mac) (w : World) (hF : MacL w a ms) (hA : ∀ m ∈ ms, MacIn w m) (hLt : ∀ m ∈ ms, lightM m = true) (hl : ms.length ≤ 1000000) :
    Calls Try.prog 45 #[.slice a ms.length ka] w fun e w' => e = .returned (.bool (ms.all okM)) ∧ Below w.heap.size w w' := by
  obtain ⟨n, hn⟩ : ∃ n, ms.length = n := ⟨_, rfl⟩
  have HC := Lib.hid (fun (m : Mac) (hm : m ∈ ms) (V : World) (hV : Below w.heap.size w V) => srightm_any m V ((hA m hm).mono hV) (hLt m hm))
  have HN := Lib.hid hn
  obtain ⟨R, hR⟩ : ∃ R, ms.all okM = R := ⟨_, rfl⟩
  have HR := Lib.hid hR
  have HF := Lib.hid hF
  rw [hn] at hl ⊢
  rw [hR]
  clear hn hR hF hA hLt
  go_enter Try.func45, Try.ntmps45
  go_wp2
  go_loopw [6] (fun vi wr => ∃ k : Nat, k ≤ n ∧ vi = .int .i64 k ∧ (ms.take k).all okM = true ∧ Below w.heap.size w wr) (fun vi _ => n - (intOf vi).toNat)
  case atStart => exact ⟨0, Nat.zero_le _, rfl, rfl, by (repeat' (first | with_reducible exact Below.refl _ _ | with_reducible assumption | with_reducible refine Below.drew ?_ | with_reducible refine below_drewN' ?_ _ | with_reducible refine Below.alloc ?_ ?_ _ | with_reducible refine Below.setCell ?_ ?_ _ | with_reducible refine below_step (by assumption) ?_ ?_ | omega | (simp; done) | (simp; omega)))⟩
  case round =>
    obtain ⟨k, hk, rfl, hE, hB⟩ := hrel
    have HE := Lib.hid hE
    have HB := Lib.hid hB
    have hbz := hB.size
    by_cases hlt : k < n
    · obtain ⟨m, hm⟩ := mem_at (l := ms) (k := k) (by rw [HN.out]; exact hlt)
      obtain ⟨b, o, rfl, hb, hc⟩ := (HF.out.mono hB) (by rw [HN.out]; omega)
      have hrg : wr.rangeAt b (o + k * 10) (mrow m) := fun j v hj => by rw [hc k m hm j (by have := (List.getElem?_eq_some_iff.1 hj).1; exact this)]; exact hj
      have HRg := Lib.hid hrg
      have c0 : wr.cell? ⟨b, o + k * 10, none⟩ = some (.string m.nm) := hc k m hm 0 (by decide)
      have Hm := Lib.hid hm
      have HCm := Lib.hid (fun V hV => HC.out m (List.mem_of_getElem? hm) V hV)
      have hok : okM m = (!decide (m.nm = emp) && rightM m) := rfl
      obtain ⟨z, hz⟩ : ∃ z, rightM m = z := ⟨_, rfl⟩
      rw [hz] at HCm hok
      have HOk := Lib.hid hok
      obtain ⟨nm, gp, r0, r1, r2, r3, r4, la, lk, L, ta, tk, T, rd⟩ := m
      dsimp only at c0
      clear hE hB hc hm hz hok hrg
      by_cases he : nm = emp
      · obtain ⟨q1, q2, q3, q4⟩ := emp_lits he
        obtain rfl : R = false := by
          rw [← HR.out]
          exact all_bad (P := okM) Hm.out (by rw [HOk.out, decide_eq_true he]; rfl)
        clear he
        go_wp2
        go_ret
        exact ⟨rfl, HB.out⟩
      · obtain ⟨q1, q2, q3, q4⟩ := emp_litn he
        cases z with
        | false =>
          obtain rfl : R = false := by
            rw [← HR.out]
            exact all_bad (P := okM) Hm.out (by rw [HOk.out, Bool.and_false])
          clear he
          go_wp2_with (first
            | ((with_reducible refine at_load (ty := 35) ?_); refine load_cells rfl 35 (.tmp 18) rfl b (o + k * 10) rfl [.string nm, .string gp, .int .i64 r0, .int .i64 r1, .int .i64 r2, .int .i64 r3, .int .i64 r4, .slice la L.length lk, .slice ta T.length tk, .bool rd] _ Try.underlying35 rfl (by kernel_rfl) HRg.out ?_)
            | (go_at_call 80; (with_reducible refine (HCm.out _ HB.out).mono ?_); rintro e w3 ⟨rfl, hb3⟩; have HB3 := Lib.hid (HB.out.trans (hb3.mono hbz)); clear hb3))
          go_ret
          exact ⟨rfl, HB3.out⟩
        | true =>
          have HE2 := Lib.hid (all_take1 (P := okM) Hm.out (by rw [HOk.out, decide_eq_false he]; rfl) HE.out)
          clear he
          go_wp2_with (first
            | ((with_reducible refine at_load (ty := 35) ?_); refine load_cells rfl 35 (.tmp 18) rfl b (o + k * 10) rfl [.string nm, .string gp, .int .i64 r0, .int .i64 r1, .int .i64 r2, .int .i64 r3, .int .i64 r4, .slice la L.length lk, .slice ta T.length tk, .bool rd] _ Try.underlying35 rfl (by kernel_rfl) HRg.out ?_)
            | (go_at_call 80; (with_reducible refine (HCm.out _ HB.out).mono ?_); rintro e w3 ⟨rfl, hb3⟩; have HB3 := Lib.hid (HB.out.trans (hb3.mono hbz)); clear hb3))
          go_roundw
          case rel => exact ⟨k + 1, by omega, by go_num, HE2.out, HB3.out⟩
          case measure => simp [intOf]; omega
    · obtain rfl : k = n := by omega
      obtain rfl : R = true := by rw [← HR.out]; exact all_done (P := okM) HN.out HE.out
      clear hE hB
      go_wp2
      go_ret
      exact ⟨rfl, HB.out⟩
def okBd (b : Bd) : Bool := rightP b.p
set_option maxRecDepth 100000 in
set_option maxHeartbeats 4000000 in
theorem rpods_any (a : Option Addr) (ka : Nat) (bs : List Bd) (w : World) (hF : BndL w a bs) (hA : ∀ b ∈ bs, BndIn w b) (hLt : ∀ b ∈ bs, lightP b.p = true) (hl : bs.length ≤ 1000000) :
    Calls Try.prog 46 #[.slice a bs.length ka] w fun e w' => e = .returned (.bool (bs.all okBd)) ∧ Below w.heap.size w w' := by
  obtain ⟨n, hn⟩ : ∃ n, bs.length = n := ⟨_, rfl⟩
  have HC := Lib.hid (fun (m : Bd) (hm : m ∈ bs) (V : World) (hV : Below w.heap.size w V) => srightp_any m.p V ((hA m hm).here.mono hV) (hLt m hm))
  have HN := Lib.hid hn
  obtain ⟨R, hR⟩ : ∃ R, bs.all okBd = R := ⟨_, rfl⟩
  have HR := Lib.hid hR
  have HF := Lib.hid hF
  rw [hn] at hl ⊢
  rw [hR]
  clear hn hR hF hA hLt
  go_enter Try.func46, Try.ntmps46
  go_wp2
  go_loopw [6] (fun vi wr => ∃ k : Nat, k ≤ n ∧ vi = .int .i64 k ∧ (bs.take k).all okBd = true ∧ Below w.heap.size w wr) (fun vi _ => n - (intOf vi).toNat)
  case atStart => exact ⟨0, Nat.zero_le _, rfl, rfl, by (repeat' (first | with_reducible exact Below.refl _ _ | with_reducible assumption | with_reducible refine Below.drew ?_ | with_reducible refine below_drewN' ?_ _ | with_reducible refine Below.alloc ?_ ?_ _ | with_reducible refine Below.setCell ?_ ?_ _ | with_reducible refine below_step (by assumption) ?_ ?_ | omega | (simp; done) | (simp; omega)))⟩
  case round =>
    obtain ⟨k, hk, rfl, hE, hB⟩ := hrel
    have HE := Lib.hid hE
    have HB := Lib.hid hB
    have hbz := hB.size
    by_cases hlt : k < n
    · obtain ⟨m, hm⟩ := mem_at (l := bs) (k := k) (by rw [HN.out]; exact hlt)
      obtain ⟨b, o, rfl, hb, hc⟩ := (HF.out.mono hB) (by rw [HN.out]; omega)
      have hrg : wr.rangeAt b (o + k * 21) (prow m.p) := fun j v hj => by
        have hj20 : j < 20 := (List.getElem?_eq_some_iff.1 hj).1
        rw [hc k m hm j (by omega)]
        show (prow m.p ++ [.string m.on])[j]? = some v
        rw [List.getElem?_append_left hj20]
        exact hj
      have HRg := Lib.hid hrg
      have Hm := Lib.hid hm
      have HCm := Lib.hid (fun V hV => HC.out m (List.mem_of_getElem? hm) V hV)
      obtain ⟨z, hz⟩ : ∃ z, rightP m.p = z := ⟨_, rfl⟩
      have HZ := Lib.hid (show okBd m = z from hz)
      rw [hz] at HCm
      obtain ⟨p, on⟩ := m
      dsimp only at HRg HCm
      obtain ⟨ag, hag⟩ : ∃ ag, (prow p).toArray = ag := ⟨_, rfl⟩
      rw [hag] at HCm
      have HAg := Lib.hid hag
      clear hE hB hc hm hz hrg hag
      cases z with
      | false =>
        obtain rfl : R = false := by rw [← HR.out]; exact all_bad (P := okBd) Hm.out HZ.out
        go_wp2_with (first
          | ((with_reducible refine at_load (ty := 47) ?_); refine load_cells rfl 47 (.tmp 12) rfl b (o + k * 21) rfl (prow p) _ Try.underlying47 rfl (by kernel_rfl) HRg.out ?_; rw [HAg.out])
          | (go_at_call 81; (with_reducible refine (HCm.out _ HB.out).mono ?_); rintro e w3 ⟨rfl, hb3⟩; have HB3 := Lib.hid (HB.out.trans (hb3.mono hbz)); clear hb3))
        go_ret
        exact ⟨rfl, HB3.out⟩
      | true =>
        have HE2 := Lib.hid (all_take1 (P := okBd) Hm.out HZ.out HE.out)
        go_wp2_with (first
          | ((with_reducible refine at_load (ty := 47) ?_); refine load_cells rfl 47 (.tmp 12) rfl b (o + k * 21) rfl (prow p) _ Try.underlying47 rfl (by kernel_rfl) HRg.out ?_; rw [HAg.out])
          | (go_at_call 81; (with_reducible refine (HCm.out _ HB.out).mono ?_); rintro e w3 ⟨rfl, hb3⟩; have HB3 := Lib.hid (HB.out.trans (hb3.mono hbz)); clear hb3))
        go_roundw
        case rel => exact ⟨k + 1, by omega, by go_num, HE2.out, HB3.out⟩
        case measure => simp [intOf]; omega
    · obtain rfl : k = n := by omega
      obtain rfl : R = true := by rw [← HR.out]; exact all_done (P := okBd) HN.out HE.out
      clear hE hB
      go_wp2
      go_ret
      exact ⟨rfl, HB.out⟩
/-- What is wrong of a yard. -/
def checkY (ms : List Mac) (bs : List Bd) : Int :=
  if 200 < ms.length ∨ 400 < bs.length then 7
  else if ¬ (ms.all okM = true ∧ bs.all okBd = true) then 12
  else if twiceN (ms.map Mac.nm) = true ∨ twiceN (bs.map pnm) = true then 15
  else if ¬ bs.all (onB (ms.map Mac.nm)) = true then 16 else 0
set_option maxRecDepth 100000 in
set_option maxHeartbeats 4000000 in
theorem check_any (a : Option Addr) (ka : Nat) (ms : List Mac) (c : Option Addr) (kc : Nat) (bs : List Bd) (w : World) (hF : MacL w a ms) (hG : BndL w c bs) (hA : ∀ m ∈ ms, MacIn w m) (hB : ∀ b ∈ bs, BndIn w b) (hLm : ∀ m ∈ ms, lightM m = true) (hLb : ∀ b ∈ bs, lightP b.p = true) (hl : ms.length ≤ 1000000) (hl2 : bs.length ≤ 1000000) :
    Calls Try.prog 14 #[.slice a ms.length ka, .slice c bs.length kc] w fun e w' => e = .returned (.int .i64 (checkY ms bs)) ∧ Below w.heap.size w w' := by
  have H1 := Lib.hid (fun V (hV : Below w.heap.size w V) => rmacs_any a ka ms V (hF.mono hV) (fun m hm => (hA m hm).mono hV) hLm hl)
  have H2 := Lib.hid (fun V (hV : Below w.heap.size w V) => rpods_any c kc bs V (hG.mono hV) (fun m hm => (hB m hm).mono hV) hLb hl2)
  have H3 := Lib.hid (fun V (hV : Below w.heap.size w V) => mtwice_any a ka ms V (hF.mono hV) hl)
  have H4 := Lib.hid (fun V (hV : Below w.heap.size w V) => ptwice_any c kc bs V (hG.mono hV) hl2)
  have H5 := Lib.hid (fun V (hV : Below w.heap.size w V) => rbind_any a ka ms c kc bs V (hF.mono hV) (hG.mono hV) hl hl2)
  obtain ⟨R, hR⟩ : ∃ R, checkY ms bs = R := ⟨_, rfl⟩
  rw [hR]
  unfold checkY at hR
  obtain ⟨m1, h1⟩ : ∃ b, ms.all okM = b := ⟨_, rfl⟩
  obtain ⟨m2, h2⟩ : ∃ b, bs.all okBd = b := ⟨_, rfl⟩
  obtain ⟨m3, h3⟩ : ∃ b, twiceN (ms.map Mac.nm) = b := ⟨_, rfl⟩
  obtain ⟨m4, h4⟩ : ∃ b, twiceN (bs.map pnm) = b := ⟨_, rfl⟩
  obtain ⟨m5, h5⟩ : ∃ b, bs.all (onB (ms.map Mac.nm)) = b := ⟨_, rfl⟩
  obtain ⟨n, hn⟩ : ∃ n, ms.length = n := ⟨_, rfl⟩
  obtain ⟨q, hq⟩ : ∃ q, bs.length = q := ⟨_, rfl⟩
  rw [h1, h2, h3, h4, h5, hn, hq] at hR
  rw [h1, hn] at H1
  rw [h2, hq] at H2
  rw [h3, hn] at H3
  rw [h4, hq] at H4
  rw [h5, hn, hq] at H5
  rw [hn, hq]
  have HR := Lib.hid hR
  clear h1 h2 h3 h4 h5 hn hq hR hF hG hA hB hLm hLb hl hl2
  have HB := Lib.hid (Below.refl w.heap.size w)
  go_enter Try.func14, Try.ntmps14
  go_wp2_with (first
    | (go_at_call 45; (with_reducible refine (H1.out _ HB.out).mono ?_); rintro e w1 ⟨rfl, hb⟩; have HB1 := Lib.hid (HB.out.trans (hb.mono (Nat.le_refl _))); clear hb)
    | (go_at_call 46; (with_reducible refine (H2.out _ HB1.out).mono ?_); rintro e w2 ⟨rfl, hb⟩; have HB2 := Lib.hid (HB1.out.trans (hb.mono HB1.out.size)); clear hb)
    | (go_at_call 47; (with_reducible refine (H3.out _ HB2.out).mono ?_); rintro e w3 ⟨rfl, hb⟩; have HB3 := Lib.hid (HB2.out.trans (hb.mono HB2.out.size)); clear hb)
    | (go_at_call 48; (with_reducible refine (H4.out _ HB3.out).mono ?_); rintro e w4 ⟨rfl, hb⟩; have HB4 := Lib.hid (HB3.out.trans (hb.mono HB3.out.size)); clear hb)
    | (go_at_call 49; (with_reducible refine (H5.out _ HB4.out).mono ?_); rintro e w5 ⟨rfl, hb⟩; have HB5 := Lib.hid (HB4.out.trans (hb.mono HB4.out.size)); clear hb))
  all_goals
    (go_ret
     refine ⟨?_, by (first | exact HB5.out | exact HB4.out | exact HB3.out | exact HB2.out | exact HB1.out | exact HB.out)⟩
     have hr := HR.out
     clear HR H1 H2 H3 H4 H5
     rw [← hr]
     clear hr
     congr 1
     congr 1
     repeat' split
     all_goals first
       | rfl
       | (exfalso; omega)
       | (exfalso; simp_all; done)
       | (exfalso; simp_all; omega))
def lightBd (b : Bd) : Bool := lightP b.p && decide (b.on.size ≤ 300)
def lightY (ms : List Mac) (bs : List Bd) : Bool := decide (ms.length ≤ 20) && decide (bs.length ≤ 40) && ms.all lightM && bs.all lightBd
theorem lightY_iff {ms : List Mac} {bs : List Bd} (h : lightY ms bs = true) : ms.length ≤ 20 ∧ bs.length ≤ 40 ∧ (∀ m ∈ ms, lightM m = true) ∧ (∀ b ∈ bs, lightP b.p = true ∧ b.on.size ≤ 300) := by
  unfold lightY at h
  simp only [Bool.and_eq_true, decide_eq_true_eq, List.all_eq_true] at h
  refine ⟨h.1.1.1, h.1.1.2, h.1.2, fun b hb => ?_⟩
  have := h.2 b hb
  unfold lightBd at this
  simpa using this
set_option maxRecDepth 100000 in
set_option maxHeartbeats 4000000 in
theorem lighty_any (a : Option Addr) (ka : Nat) (ms : List Mac) (c : Option Addr) (kc : Nat) (bs : List Bd) (w : World) (hF : MacL w a ms) (hG : BndL w c bs) (hA : ∀ m ∈ ms, MacIn w m) (hB : ∀ b ∈ bs, BndIn w b) (hl : ms.length ≤ maxLen) (hl2 : bs.length ≤ maxLen) :
    Calls Try.prog 12 #[.slice a ms.length ka, .slice c bs.length kc] w fun e w' => e = .returned (.bool (lightY ms bs)) ∧ Below w.heap.size w w' := by
  obtain ⟨n, hn⟩ : ∃ n, ms.length = n := ⟨_, rfl⟩
  obtain ⟨q, hq⟩ : ∃ q, bs.length = q := ⟨_, rfl⟩
  have HN := Lib.hid hn
  have HQ := Lib.hid hq
  obtain ⟨R, hR⟩ : ∃ R, lightY ms bs = R := ⟨_, rfl⟩
  have HR := Lib.hid hR
  have HC := Lib.hid (fun (m : Mac) (hm : m ∈ ms) (V : World) (hV : Below w.heap.size w V) => lightm_any m V ((hA m hm).here.mono hV))
  have HD := Lib.hid (fun (m : Bd) (hm : m ∈ bs) (V : World) (hV : Below w.heap.size w V) => lightp_any m.p V ((hB m hm).here.mono hV))
  have HF := Lib.hid hF
  have HG := Lib.hid hG
  unfold maxLen at hl hl2
  rw [hn] at hl ⊢
  rw [hq] at hl2 ⊢
  rw [hR]
  unfold lightY at hR
  rw [hn, hq] at hR
  clear hn hq hF hG hA hB
  by_cases h20 : n ≤ 20
  rotate_left
  · obtain rfl : R = false := by rw [← hR, decide_eq_false h20]; rfl
    have k1 : 20 < n := by omega
    clear hR h20
    go_enter Try.func12, Try.ntmps12
    go_wp2
    go_ret
    exact ⟨rfl, by (repeat' (first | with_reducible exact Below.refl _ _ | with_reducible assumption | with_reducible refine Below.drew ?_ | with_reducible refine below_drewN' ?_ _ | with_reducible refine Below.alloc ?_ ?_ _ | with_reducible refine Below.setCell ?_ ?_ _ | with_reducible refine below_step (by assumption) ?_ ?_ | omega | (simp; done) | (simp; omega)))⟩
  by_cases h40 : q ≤ 40
  rotate_left
  · obtain rfl : R = false := by rw [← hR, decide_eq_true h20, decide_eq_false h40]; rfl
    have k1 : ¬ 20 < n := by omega
    have k2 : 40 < q := by omega
    clear hR h20 h40
    go_enter Try.func12, Try.ntmps12
    go_wp2
    go_ret
    exact ⟨rfl, by (repeat' (first | with_reducible exact Below.refl _ _ | with_reducible assumption | with_reducible refine Below.drew ?_ | with_reducible refine below_drewN' ?_ _ | with_reducible refine Below.alloc ?_ ?_ _ | with_reducible refine Below.setCell ?_ ?_ _ | with_reducible refine below_step (by assumption) ?_ ?_ | omega | (simp; done) | (simp; omega)))⟩
  rw [decide_eq_true h20, decide_eq_true h40] at hR
  have hR : (ms.all lightM && bs.all lightBd) = R := hR
  have k1 : ¬ 20 < n := by omega
  have k2 : ¬ 40 < q := by omega
  have HRr := Lib.hid hR
  clear hR
  go_enter Try.func12, Try.ntmps12
  go_wp2
  go_loopw [5] (fun vi wr => ∃ k : Nat, k ≤ n ∧ vi = .int .i64 k ∧ (ms.take k).all lightM = true ∧ Below w.heap.size w wr) (fun vi _ => n - (intOf vi).toNat)
  case atStart => exact ⟨0, Nat.zero_le _, rfl, rfl, by (repeat' (first | with_reducible exact Below.refl _ _ | with_reducible assumption | with_reducible refine Below.drew ?_ | with_reducible refine below_drewN' ?_ _ | with_reducible refine Below.alloc ?_ ?_ _ | with_reducible refine Below.setCell ?_ ?_ _ | with_reducible refine below_step (by assumption) ?_ ?_ | omega | (simp; done) | (simp; omega)))⟩
  case round =>
    obtain ⟨k, hk, rfl, hE, hB⟩ := hrel
    have HE := Lib.hid hE
    have HB := Lib.hid hB
    have hbz := hB.size
    by_cases hlt : k < n
    · obtain ⟨m, hm⟩ := mem_at (l := ms) (k := k) (by rw [HN.out]; exact hlt)
      obtain ⟨b, o, rfl, hb, hc⟩ := (HF.out.mono hB) (by rw [HN.out]; omega)
      have hrg : wr.rangeAt b (o + k * 10) (mrow m) := fun j v hj => by rw [hc k m hm j (by have := (List.getElem?_eq_some_iff.1 hj).1; exact this)]; exact hj
      have HRg := Lib.hid hrg
      have Hm := Lib.hid hm
      have HCm := Lib.hid (fun V hV => HC.out m (List.mem_of_getElem? hm) V hV)
      obtain ⟨z, hz⟩ : ∃ z, lightM m = z := ⟨_, rfl⟩
      have HZ := Lib.hid hz
      rw [hz] at HCm
      obtain ⟨nm, gp, r0, r1, r2, r3, r4, la, lk, L, ta, tk, T, rd⟩ := m
      clear hE hB hc hm hz hrg
      cases z with
      | false =>
        obtain rfl : R = false := by rw [← HRr.out, all_bad (P := lightM) Hm.out HZ.out]; rfl
        go_wp2_with (first
          | ((with_reducible refine at_load (ty := 35) ?_); refine load_cells rfl 35 (.tmp 23) rfl b (o + k * 10) rfl [.string nm, .string gp, .int .i64 r0, .int .i64 r1, .int .i64 r2, .int .i64 r3, .int .i64 r4, .slice la L.length lk, .slice ta T.length tk, .bool rd] _ Try.underlying35 rfl (by kernel_rfl) HRg.out ?_)
          | (go_at_call 41; (with_reducible refine (HCm.out _ HB.out).mono ?_); rintro e w3 ⟨rfl, hb3⟩; have HB3 := Lib.hid (HB.out.trans (hb3.mono hbz)); clear hb3))
        go_ret
        exact ⟨rfl, HB3.out⟩
      | true =>
        have HE2 := Lib.hid (all_take1 (P := lightM) Hm.out HZ.out HE.out)
        go_wp2_with (first
          | ((with_reducible refine at_load (ty := 35) ?_); refine load_cells rfl 35 (.tmp 23) rfl b (o + k * 10) rfl [.string nm, .string gp, .int .i64 r0, .int .i64 r1, .int .i64 r2, .int .i64 r3, .int .i64 r4, .slice la L.length lk, .slice ta T.length tk, .bool rd] _ Try.underlying35 rfl (by kernel_rfl) HRg.out ?_)
          | (go_at_call 41; (with_reducible refine (HCm.out _ HB.out).mono ?_); rintro e w3 ⟨rfl, hb3⟩; have HB3 := Lib.hid (HB.out.trans (hb3.mono hbz)); clear hb3))
        go_roundw
        case rel => exact ⟨k + 1, by omega, by go_num, HE2.out, HB3.out⟩
        case measure => simp [intOf]; omega
    · obtain rfl : k = n := by omega
      have HRq := Lib.hid (show bs.all lightBd = R by rw [← HRr.out, all_done (P := lightM) HN.out HE.out]; rfl)
      obtain ⟨w5, h5⟩ : ∃ w5, w5 = wr := ⟨_, rfl⟩
      subst h5
      clear hE hB
      go_wp2
      go_loopw [6] (fun vi wr => ∃ k : Nat, k ≤ q ∧ vi = .int .i64 k ∧ (bs.take k).all lightBd = true ∧ Below w.heap.size w wr) (fun vi _ => q - (intOf vi).toNat)
      case atStart => exact ⟨0, Nat.zero_le _, rfl, rfl, HB.out⟩
      case round =>
        clear HB HE hbz
        obtain ⟨k, hk, rfl, hE, hB⟩ := hrel
        have HE := Lib.hid hE
        have HB := Lib.hid hB
        have hbz := hB.size
        by_cases hlt : k < q
        · obtain ⟨m, hm⟩ := mem_at (l := bs) (k := k) (by rw [HQ.out]; exact hlt)
          obtain ⟨b, o, rfl, hb, hc⟩ := (HG.out.mono hB) (by rw [HQ.out]; omega)
          have hrg : wr.rangeAt b (o + k * 21) (prow m.p) := fun j v hj => by
            have hj20 : j < 20 := (List.getElem?_eq_some_iff.1 hj).1
            rw [hc k m hm j (by omega)]
            show (prow m.p ++ [.string m.on])[j]? = some v
            rw [List.getElem?_append_left hj20]
            exact hj
          have HRg := Lib.hid hrg
          have c20 : wr.cell? ⟨b, o + k * 21 + 20, none⟩ = some (.string m.on) := hc k m hm 20 (by decide)
          have Hm := Lib.hid hm
          have HCm := Lib.hid (fun V hV => HD.out m (List.mem_of_getElem? hm) V hV)
          obtain ⟨z, hz⟩ : ∃ z, lightP m.p = z := ⟨_, rfl⟩
          have HZ := Lib.hid (show lightBd m = (z && decide (m.on.size ≤ 300)) from by rw [← hz]; rfl)
          rw [hz] at HCm
          obtain ⟨p, on⟩ := m
          dsimp only at HRg HCm c20 HZ
          obtain ⟨ag, hag⟩ : ∃ ag, (prow p).toArray = ag := ⟨_, rfl⟩
          rw [hag] at HCm
          have HAg := Lib.hid hag
          clear hE hc hm hz hrg hag
          cases z with
          | false =>
            obtain rfl : R = false := by rw [← HRq.out]; exact all_bad (P := lightBd) Hm.out HZ.out
            go_wp2_with (first
              | ((with_reducible refine at_load (ty := 47) ?_); refine load_cells rfl 47 (.tmp 36) rfl b (o + k * 21) rfl (prow p) _ Try.underlying47 rfl (by kernel_rfl) HRg.out ?_; rw [HAg.out])
              | (go_at_call 23; (with_reducible refine (HCm.out _ HB.out).mono ?_); rintro e w3 ⟨rfl, hb3⟩; have HB3 := Lib.hid (HB.out.trans (hb3.mono hbz)); clear hb3))
            go_ret
            exact ⟨rfl, HB3.out⟩
          | true =>
            by_cases hon : on.size ≤ 300
            · have k3 : ¬ 300 < on.size := by omega
              have HE2 := Lib.hid (all_take1 (P := lightBd) Hm.out (by rw [HZ.out, decide_eq_true hon]; rfl) HE.out)
              clear hon
              go_wp2_with (first
                | ((with_reducible refine at_load (ty := 47) ?_); refine load_cells rfl 47 (.tmp 36) rfl b (o + k * 21) rfl (prow p) _ Try.underlying47 rfl (by kernel_rfl) HRg.out ?_; rw [HAg.out])
                | (go_at_call 23; (with_reducible refine (HCm.out _ HB.out).mono ?_); rintro e w3 ⟨rfl, hb3⟩; have HB3 := Lib.hid (HB.out.trans (hb3.mono hbz)); have c20 := (hb3.cell (p := ⟨b, o + k * 21 + 20, none⟩) hb).trans c20; have hbw3 := Nat.lt_of_lt_of_le hb hb3.size; clear hb3))
              go_roundw
              case rel => exact ⟨k + 1, by omega, by go_num, HE2.out, HB3.out⟩
              case measure => simp [intOf]; omega
            · have k3 : 300 < on.size := by omega
              obtain rfl : R = false := by rw [← HRq.out]; exact all_bad (P := lightBd) Hm.out (by rw [HZ.out, decide_eq_false hon]; rfl)
              clear hon
              go_wp2_with (first
                | ((with_reducible refine at_load (ty := 47) ?_); refine load_cells rfl 47 (.tmp 36) rfl b (o + k * 21) rfl (prow p) _ Try.underlying47 rfl (by kernel_rfl) HRg.out ?_; rw [HAg.out])
                | (go_at_call 23; (with_reducible refine (HCm.out _ HB.out).mono ?_); rintro e w3 ⟨rfl, hb3⟩; have HB3 := Lib.hid (HB.out.trans (hb3.mono hbz)); have c20 := (hb3.cell (p := ⟨b, o + k * 21 + 20, none⟩) hb).trans c20; have hbw3 := Nat.lt_of_lt_of_le hb hb3.size; clear hb3))
              go_ret
              exact ⟨rfl, HB3.out⟩
        · obtain rfl : k = q := by omega
          obtain rfl : R = true := by rw [← HRq.out]; exact all_done (P := lightBd) HQ.out HE.out
          clear hE hB
          go_wp2
          go_ret
          exact ⟨rfl, HB.out⟩
theorem Try.info47 : (Try.prog.info? 47).map (fun i => (i.zero, i.size, i.bytes)) = some (some (.agg #[.string ⟨#[]⟩, .int .i64 0, .int .i64 0, .int .i64 0, .int .i64 0, .int .i64 0, .slice none 0 0, .slice none 0 0, .slice none 0 0, .slice none 0 0, .slice none 0 0, .slice none 0 0, .bool false, .slice none 0 0, .int .i64 0, .int .i64 0, .string ⟨#[]⟩, .bool false, .bool false, .bool false]), 20, 272) := by kernel_rfl
theorem own_sl {w : World} {B n k : Nat} {v : Value} {e : TypeId} {xs : List Value} (h : w.ownsRow B e k v n xs) : ∃ a c, v = .slice a n c := by
  rcases h.2 with ⟨e, h0⟩ | ⟨g, cap, cur, e, _⟩
  · exact ⟨none, 0, by rw [e, h0]⟩
  · exact ⟨_, _, e⟩
/-- The pods that are on a machine. -/
def isOn (nm : ByteArray) (b : Bd) : Bool := decide (b.on = nm)
def onL (bs : List Bd) (nm : ByteArray) : List Pd := (bs.filter (isOn nm)).map Bd.p
theorem onL_next {bs : List Bd} {k : Nat} {b : Bd} (h : bs[k]? = some b) (nm : ByteArray) : onL (bs.take (k + 1)) nm = onL (bs.take k) nm ++ (if isOn nm b = true then [b.p] else []) := by
  unfold onL
  rw [List.take_add_one, h, List.filter_append, List.map_append]
  congr 1
  show (List.filter (isOn nm) [b]).map Bd.p = _
  rw [List.filter_cons]
  split <;> rfl
theorem onL_len (bs : List Bd) (nm : ByteArray) : (onL bs nm).length ≤ bs.length := by
  unfold onL
  rw [List.length_map]
  exact List.length_filter_le _ _
def GivesP (w : World) (L : List Pd) (e : Ending) (w' : World) : Prop := (∃ v, e = .returned v ∧ w'.ownsRow w.heap.size 47 20 v L.length (L.flatMap prow)) ∧ Below w.heap.size w w'
theorem prow_one (p : Pd) : ∀ u ∈ prow p, u.oneCell' = true := by
  intro u hu
  simp only [prow, List.mem_cons, List.not_mem_nil, or_false] at hu
  rcases hu with rfl | rfl | rfl | rfl | rfl | rfl | rfl | rfl | rfl | rfl | rfl | rfl | rfl | rfl | rfl | rfl | rfl | rfl | rfl | rfl <;> rfl
set_option maxRecDepth 100000 in
set_option maxHeartbeats 4000000 in
theorem on_any (a : Option Addr) (ka : Nat) (bs : List Bd) (mm : ByteArray) (w : World) (hF : BndL w a bs) (hl : bs.length ≤ 1000000) :
    Calls Try.prog 21 #[.slice a bs.length ka, .string mm] w (GivesP w (onL bs mm)) := by
  obtain ⟨n, hn⟩ : ∃ n, bs.length = n := ⟨_, rfl⟩
  have HN := Lib.hid hn
  have HF := Lib.hid hF
  rw [hn] at hl ⊢
  clear hn hF
  obtain ⟨i0, hi, hz0, hz1, hz2⟩ := info_parts Try.info47
  have Hi := Lib.hid hi
  have Hz0 := Lib.hid hz0
  have Hz1 := Lib.hid hz1
  have Hz2 := Lib.hid hz2
  clear hi hz0 hz1 hz2
  go_enter Try.func21, Try.ntmps21
  go_wp2
  go_loopw [5, 9] (fun vo vi wr => ∃ (k : Nat) (Q : List Pd), k ≤ n ∧ vi = .int .i64 k ∧ Q = onL (bs.take k) mm ∧ Q.length ≤ k ∧ wr.ownsRow w.heap.size 47 20 vo Q.length (Q.flatMap prow) ∧ Below w.heap.size w wr) (fun _ vi _ => n - (intOf vi).toNat)
  case atStart => exact ⟨0, [], Nat.zero_le _, rfl, rfl, Nat.le_refl _, World.ownsRow_nil _ _ _ _, by (repeat' (first | with_reducible exact Below.refl _ _ | with_reducible assumption | with_reducible refine Below.drew ?_ | with_reducible refine below_drewN' ?_ _ | with_reducible refine Below.alloc ?_ ?_ _ | with_reducible refine Below.setCell ?_ ?_ _ | with_reducible refine below_step (by assumption) ?_ ?_ | omega | (simp; done) | (simp; omega)))⟩
  case round =>
    obtain ⟨k, Q, hk, rfl, hE, hLk, hO, hB⟩ := hrel
    have HE := Lib.hid hE
    have HB := Lib.hid hB
    have HO := Lib.hid hO
    have hbz := hB.size
    obtain ⟨ao, ko, rfl⟩ := own_sl hO
    by_cases hlt : k < n
    · obtain ⟨m, hm⟩ := mem_at (l := bs) (k := k) (by rw [HN.out]; exact hlt)
      obtain ⟨b, o, rfl, hb, hc⟩ := (HF.out.mono hB) (by rw [HN.out]; omega)
      have hrg : wr.rangeAt b (o + k * 21) (prow m.p) := fun j v hj => by
        have hj20 : j < 20 := (List.getElem?_eq_some_iff.1 hj).1
        rw [hc k m hm j (by omega)]
        show (prow m.p ++ [.string m.on])[j]? = some v
        rw [List.getElem?_append_left hj20]
        exact hj
      have HRg := Lib.hid hrg
      have c20 : wr.cell? ⟨b, o + k * 21 + 20, none⟩ = some (.string m.on) := hc k m hm 20 (by decide)
      have hnx := onL_next hm mm
      obtain ⟨p, on⟩ := m
      dsimp only at HRg c20 hnx
      by_cases ho : on = mm
      · have q := str_yes ho
        rw [if_pos (show isOn mm ⟨p, on⟩ = true from decide_eq_true ho), ← hE] at hnx
        have HNx := Lib.hid hnx
        obtain ⟨nm, n0, n1, n2, n3, n4, la, lk, L, sa, sk, S, ta, tk, T, ba, bk, B, pa, pk, P, aa, ak, A, wd, da, dk, D, sw, rk, ow, dm, pn, lc⟩ := p
        have HRg := Lib.hid (show wr.rangeAt b (o + k * 21) [.string nm, .int .i64 n0, .int .i64 n1, .int .i64 n2, .int .i64 n3, .int .i64 n4, .slice la L.length lk, .slice sa S.length sk, .slice ta T.length tk, .slice ba B.length bk, .slice pa P.length pk, .slice aa A.length ak, .bool wd, .slice da D.length dk, .int .i64 sw, .int .i64 rk, .string ow, .bool dm, .bool pn, .bool lc] from HRg.out)
        have HNx := Lib.hid (show Q ++ [(⟨nm, n0, n1, n2, n3, n4, la, lk, L, sa, sk, S, ta, tk, T, ba, bk, B, pa, pk, P, aa, ak, A, wd, da, dk, D, sw, rk, ow, dm, pn, lc⟩ : Pd)] = onL (bs.take (k + 1)) mm from HNx.out.symm)
        obtain ⟨pb, hpb⟩ : ∃ pb, (⟨nm, n0, n1, n2, n3, n4, la, lk, L, sa, sk, S, ta, tk, T, ba, bk, B, pa, pk, P, aa, ak, A, wd, da, dk, D, sw, rk, ow, dm, pn, lc⟩ : Pd) = pb := ⟨_, rfl⟩
        have HP := Lib.hid (show prow pb = [.string nm, .int .i64 n0, .int .i64 n1, .int .i64 n2, .int .i64 n3, .int .i64 n4, .slice la L.length lk, .slice sa S.length sk, .slice ta T.length tk, .slice ba B.length bk, .slice pa P.length pk, .slice aa A.length ak, .bool wd, .slice da D.length dk, .int .i64 sw, .int .i64 rk, .string ow, .bool dm, .bool pn, .bool lc] by rw [← hpb]; rfl)
        rw [hpb] at HNx
        clear hE hO hB hc hm hrg hnx ho hpb
        go_wp2_with (first
          | ((with_reducible refine at_load (ty := 47) ?_); refine load_cells rfl 47 (.tmp 23) rfl b (o + k * 21) rfl [.string nm, .int .i64 n0, .int .i64 n1, .int .i64 n2, .int .i64 n3, .int .i64 n4, .slice la L.length lk, .slice sa S.length sk, .slice ta T.length tk, .slice ba B.length bk, .slice pa P.length pk, .slice aa A.length ak, .bool wd, .slice da D.length dk, .int .i64 sw, .int .i64 rk, .string ow, .bool dm, .bool pn, .bool lc] _ Try.underlying47 rfl (by kernel_rfl) HRg.out ?_)
          | (at_builtin; refine wpList_append_src rfl (.tmp 19) (.tmp 25) 40 rfl w.heap.size 47 i0 _ 20 272 Try.underlying40 Hi.out Hz0.out Hz1.out Hz2.out rfl (by decide) _ Q.length (Q.flatMap prow) rfl (HO.out.alloc _) (some ⟨wr.heap.size, 0, none⟩) 1 1 [.string nm, .int .i64 n0, .int .i64 n1, .int .i64 n2, .int .i64 n3, .int .i64 n4, .slice la L.length lk, .slice sa S.length sk, .slice ta T.length tk, .slice ba B.length bk, .slice pa P.length pk, .slice aa A.length ak, .bool wd, .slice da D.length dk, .int .i64 sw, .int .i64 rk, .string ow, .bool dm, .bool pn, .bool lc] rfl rfl (fun q e => by injection e with e; rw [← e]; exact news_at _ _ _) (fun e => by cases e) (HP.out ▸ prow_one pb) (by unfold maxLen; omega) (by omega) (by simp; omega) ?_; intro v6 w6 hown6 hgrow6; obtain ⟨a6, k6, rfl⟩ := own_sl hown6; have HB6 := Lib.hid (own_below (HO.out.alloc _) (HB.out.alloc hbz _) (by simp; omega) hgrow6); have HO6 := Lib.hid hown6; clear hown6 hgrow6))
        go_roundw
        case rel =>
          refine ⟨k + 1, Q ++ [pb], by omega, by go_num, HNx.out, by rw [List.length_append]; show Q.length + 1 ≤ _; omega, ?_, HB6.out⟩
          rw [List.length_append, List.flatMap_append]
          have h9 := HO6.out
          rw [← HP.out] at h9
          simpa using h9
        case measure => simp [intOf]; omega
      · have q := str_no ho
        rw [if_neg (show ¬ isOn mm ⟨p, on⟩ = true from fun e => ho (of_decide_eq_true e)), List.append_nil, ← hE] at hnx
        have HNx := Lib.hid hnx.symm
        clear hE hO hB hc hm hrg hnx ho
        go_wp2
        go_roundw
        case rel => exact ⟨k + 1, Q, by omega, by go_num, HNx.out, by omega, HO.out, HB.out⟩
        case measure => simp [intOf]; omega
    · obtain rfl : k = n := by omega
      have hL : Q = onL bs mm := by rw [hE, List.take_of_length_le (by rw [HN.out]; exact Nat.le_refl _)]
      have HL := Lib.hid hL
      clear hE hO hB hL
      go_wp2
      refine bodyPost_ret (v := .slice ao Q.length ko) (by simp [results, Try.results21, go_sem]) rfl ⟨⟨_, rfl, by rw [← HL.out]; exact HO.out⟩, HB.out⟩
end Go.Proofs.Ythbpnfpalcgfeaa
