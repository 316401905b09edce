/-
  Yards: Find, Place, Check, On.
-/
import Derived.Test.YthbpnfpalcgfeaaGreatND
import Derived.Test.YthbpnfpalcgfeaaGreatMG
import Derived.Test.YthbpnfpalcgfeaaGreatNE
namespace Go.Proofs.YthbpnfpalcgfeaaGreat
open Go.RowKit
set_option linter.unusedVariables false
set_option linter.unusedSimpArgs false

/-- Where a name stands first. -/
def findN : List ByteArray → ByteArray → Nat → Int
  | [], _, _ => -1
  | y :: l, x, k => if y = x then (k : Int) else findN l x (k + 1)
def twiceN (l : List ByteArray) : Bool := (List.range l.length).any fun i => decide (findN l (l.getD i emp) 0 < (i : Int))
theorem findN_at {l : List ByteArray} {x y : ByteArray} {k : Nat} (h : l[k]? = some y) : findN (l.drop k) x k = if y = x then (k : Int) else findN (l.drop (k + 1)) x (k + 1) := by
  obtain ⟨h1, h2⟩ := List.getElem?_eq_some_iff.1 h
  rw [List.drop_eq_getElem_cons h1, h2]
  rfl
theorem findN_range : ∀ (l : List ByteArray) (x : ByteArray) (k : Nat), findN l x k = -1 ∨ ((k : Int) ≤ findN l x k ∧ findN l x k < k + l.length)
  | [], _, _ => .inl rfl
  | y :: l, x, k => by
    unfold findN
    split
    · right; rw [List.length_cons]; omega
    · rcases findN_range l x (k + 1) with h | h
      · exact .inl h
      · right; rw [List.length_cons]; omega
theorem nm_at {ms : List Mac} {k : Nat} {m : Mac} (h : ms[k]? = some m) : (ms.map Mac.nm)[k]? = some m.nm := by rw [List.getElem?_map, h]; rfl
theorem str_yes {a b : ByteArray} (h : a = b) : (a.toList == b.toList) = true := by rw [h]; simp
theorem str_no {a b : ByteArray} (h : ¬ a = b) : (a.toList == b.toList) = false := by rw [beq_eq_false_iff_ne]; exact fun e => h ((str_inj _ _).1 e)
set_option maxRecDepth 100000 in
set_option maxHeartbeats 2000000 in
theorem find_any (a : Option Addr) (ka : Nat) (ms : List Mac) (nm : ByteArray) (w : World) (hF : MacL w a ms) (hl : ms.length ≤ 1000000) :
    Calls Tryz.prog 20 #[.slice a ms.length ka, .string nm] w fun e w' => e = .returned (.int .i64 (findN (ms.map Mac.nm) nm 0)) ∧ Below w.heap.size w w' := by
  obtain ⟨n, hn⟩ : ∃ n, ms.length = n := ⟨_, rfl⟩
  obtain ⟨N, hN⟩ : ∃ N, ms.map Mac.nm = N := ⟨_, rfl⟩
  have HN := Lib.hid hn
  have HM := Lib.hid hN
  have HL := Lib.hid (show N.length = n by rw [← hN, List.length_map, hn])
  obtain ⟨R, hR⟩ : ∃ R, findN N nm 0 = R := ⟨_, rfl⟩
  have HR := Lib.hid (show findN (N.drop 0) nm 0 = R from hR)
  have HF := Lib.hid hF
  rw [hn] at hl ⊢
  rw [hN, hR]
  clear hn hN hR hF
  go_enter Tryz.func20, Tryz.ntmps20
  go_wp2
  go_loopw [8] (fun vi wr => ∃ k : Nat, k ≤ n ∧ vi = .int .i64 k ∧ findN (N.drop k) nm k = R ∧ wr = w) (fun vi _ => n - (intOf vi).toNat)
  case atStart => exact ⟨0, Nat.zero_le _, rfl, HR.out, rfl⟩
  case round =>
    clear HR
    obtain ⟨k, hk, rfl, hE, rfl⟩ := hrel
    have HE := Lib.hid hE
    clear hE
    by_cases hlt : k < n
    · obtain ⟨m, hm⟩ := mem_at (l := ms) (k := k) (by rw [HN.out]; exact hlt)
      obtain ⟨b, o, rfl, hb, hc⟩ := HF.out (by rw [HN.out]; omega)
      have c0 : wr.cell? ⟨b, o + k * 10, none⟩ = some (.string (Mac.nm m)) := hc k m hm 0 (by decide)
      have hmN := nm_at hm
      rw [HM.out] at hmN
      obtain ⟨y, hy⟩ : ∃ y, Mac.nm m = y := ⟨_, rfl⟩
      rw [hy] at c0 hmN
      have HNx := Lib.hid ((findN_at (x := nm) hmN).symm.trans HE.out)
      clear hc hm hmN hy
      by_cases he : y = nm
      · have q := str_yes he
        obtain rfl : R = (k : Int) := by have := HNx.out; rw [if_pos he] at this; exact this.symm
        clear he
        go_wp2
        go_ret
        exact ⟨rfl, Below.refl _ _⟩
      · have q := str_no he
        have HNy := Lib.hid (show findN (N.drop (k + 1)) nm (k + 1) = R by have := HNx.out; rw [if_neg he] at this; exact this)
        clear he
        go_wp2
        go_roundw
        case rel => exact ⟨k + 1, by omega, by go_num, HNy.out, by trivial⟩
        case measure => simp [intOf]; omega
    · obtain rfl : k = n := by omega
      obtain rfl : R = -1 := by
        rw [← HE.out, List.drop_of_length_le (by rw [HL.out]; exact Nat.le_refl _)]
        rfl
      go_wp2
      go_ret
      exact ⟨rfl, Below.refl _ _⟩
def pnm (b : Bd) : ByteArray := b.p.nm
theorem pnm_at {bs : List Bd} {k : Nat} {m : Bd} (h : bs[k]? = some m) : (bs.map pnm)[k]? = some (pnm m) := by rw [List.getElem?_map, h]; rfl
def onB (N : List ByteArray) (b : Bd) : Bool := decide (b.on = emp) || decide (0 ≤ findN N b.on 0)
/-- A machine that may stand in a yard. -/
def okM (m : Mac) : Bool := !decide (m.nm = emp) && rightM m
def okBd (b : Bd) : Bool := rightP b.p
/-- What is wrong of a yard. -/
def checkY (ms : List Mac) (bs : List Bd) : Int :=
  if 200 < ms.length ∨ 400 < bs.length then 7
  else if ¬ (ms.all okM = true ∧ bs.all okBd = true) then 12
  else if twiceN (ms.map Mac.nm) = true ∨ twiceN (bs.map pnm) = true then 15
  else if ¬ bs.all (onB (ms.map Mac.nm)) = true then 16 else 0
def lightBd (b : Bd) : Bool := lightP b.p && decide (b.on.size ≤ 300)
def lightY (ms : List Mac) (bs : List Bd) : Bool := decide (ms.length ≤ 20) && decide (bs.length ≤ 40) && ms.all lightM && bs.all lightBd
theorem lightY_iff {ms : List Mac} {bs : List Bd} (h : lightY ms bs = true) : ms.length ≤ 20 ∧ bs.length ≤ 40 ∧ (∀ m ∈ ms, lightM m = true) ∧ (∀ b ∈ bs, lightP b.p = true ∧ b.on.size ≤ 300) := by
  unfold lightY at h
  simp only [Bool.and_eq_true, decide_eq_true_eq, List.all_eq_true] at h
  refine ⟨h.1.1.1, h.1.1.2, h.1.2, fun b hb => ?_⟩
  have := h.2 b hb
  unfold lightBd at this
  simpa using this
set_option maxRecDepth 100000 in
set_option maxHeartbeats 4000000 in
theorem lighty_any (a : Option Addr) (ka : Nat) (ms : List Mac) (c : Option Addr) (kc : Nat) (bs : List Bd) (w : World) (hF : MacL w a ms) (hG : BndL w c bs) (hA : ∀ m ∈ ms, MacIn w m) (hB : ∀ b ∈ bs, BndIn w b) (hl : ms.length ≤ maxLen) (hl2 : bs.length ≤ maxLen) :
    Calls Tryz.prog 15 #[.slice a ms.length ka, .slice c bs.length kc] w fun e w' => e = .returned (.bool (lightY ms bs)) ∧ Below w.heap.size w w' := by
  obtain ⟨n, hn⟩ : ∃ n, ms.length = n := ⟨_, rfl⟩
  obtain ⟨q, hq⟩ : ∃ q, bs.length = q := ⟨_, rfl⟩
  have HN := Lib.hid hn
  have HQ := Lib.hid hq
  obtain ⟨R, hR⟩ : ∃ R, lightY ms bs = R := ⟨_, rfl⟩
  have HR := Lib.hid hR
  have HC := Lib.hid (fun (m : Mac) (hm : m ∈ ms) (V : World) (hV : Below w.heap.size w V) => lightm_any m V ((hA m hm).here.mono hV))
  have HD := Lib.hid (fun (m : Bd) (hm : m ∈ bs) (V : World) (hV : Below w.heap.size w V) => lightp_any m.p V ((hB m hm).here.mono hV))
  have HF := Lib.hid hF
  have HG := Lib.hid hG
  unfold maxLen at hl hl2
  rw [hn] at hl ⊢
  rw [hq] at hl2 ⊢
  rw [hR]
  unfold lightY at hR
  rw [hn, hq] at hR
  clear hn hq hF hG hA hB
  by_cases h20 : n ≤ 20
  rotate_left
  · obtain rfl : R = false := by rw [← hR, decide_eq_false h20]; rfl
    have k1 : 20 < n := by omega
    clear hR h20
    go_enter Tryz.func15, Tryz.ntmps15
    go_wp2
    go_ret
    exact ⟨rfl, by (repeat' (first | with_reducible exact Below.refl _ _ | with_reducible assumption | with_reducible refine Below.drew ?_ | with_reducible refine below_drewN' ?_ _ | with_reducible refine Below.alloc ?_ ?_ _ | with_reducible refine Below.setCell ?_ ?_ _ | with_reducible refine below_step (by assumption) ?_ ?_ | omega | (simp; done) | (simp; omega)))⟩
  by_cases h40 : q ≤ 40
  rotate_left
  · obtain rfl : R = false := by rw [← hR, decide_eq_true h20, decide_eq_false h40]; rfl
    have k1 : ¬ 20 < n := by omega
    have k2 : 40 < q := by omega
    clear hR h20 h40
    go_enter Tryz.func15, Tryz.ntmps15
    go_wp2
    go_ret
    exact ⟨rfl, by (repeat' (first | with_reducible exact Below.refl _ _ | with_reducible assumption | with_reducible refine Below.drew ?_ | with_reducible refine below_drewN' ?_ _ | with_reducible refine Below.alloc ?_ ?_ _ | with_reducible refine Below.setCell ?_ ?_ _ | with_reducible refine below_step (by assumption) ?_ ?_ | omega | (simp; done) | (simp; omega)))⟩
  rw [decide_eq_true h20, decide_eq_true h40] at hR
  have hR : (ms.all lightM && bs.all lightBd) = R := hR
  have k1 : ¬ 20 < n := by omega
  have k2 : ¬ 40 < q := by omega
  have HRr := Lib.hid hR
  clear hR
  go_enter Tryz.func15, Tryz.ntmps15
  go_wp2
  go_loopw [5] (fun vi wr => ∃ k : Nat, k ≤ n ∧ vi = .int .i64 k ∧ (ms.take k).all lightM = true ∧ Below w.heap.size w wr) (fun vi _ => n - (intOf vi).toNat)
  case atStart => exact ⟨0, Nat.zero_le _, rfl, rfl, by (repeat' (first | with_reducible exact Below.refl _ _ | with_reducible assumption | with_reducible refine Below.drew ?_ | with_reducible refine below_drewN' ?_ _ | with_reducible refine Below.alloc ?_ ?_ _ | with_reducible refine Below.setCell ?_ ?_ _ | with_reducible refine below_step (by assumption) ?_ ?_ | omega | (simp; done) | (simp; omega)))⟩
  case round =>
    obtain ⟨k, hk, rfl, hE, hB⟩ := hrel
    have HE := Lib.hid hE
    have HB := Lib.hid hB
    have hbz := hB.size
    by_cases hlt : k < n
    · obtain ⟨m, hm⟩ := mem_at (l := ms) (k := k) (by rw [HN.out]; exact hlt)
      obtain ⟨b, o, rfl, hb, hc⟩ := (HF.out.mono hB) (by rw [HN.out]; omega)
      have hrg : wr.rangeAt b (o + k * 10) (mrow m) := fun j v hj => by rw [hc k m hm j (by have := (List.getElem?_eq_some_iff.1 hj).1; exact this)]; exact hj
      have HRg := Lib.hid hrg
      have Hm := Lib.hid hm
      have HCm := Lib.hid (fun V hV => HC.out m (List.mem_of_getElem? hm) V hV)
      obtain ⟨z, hz⟩ : ∃ z, lightM m = z := ⟨_, rfl⟩
      have HZ := Lib.hid hz
      rw [hz] at HCm
      obtain ⟨nm, gp, r0, r1, r2, r3, r4, la, lk, L, ta, tk, T, rd⟩ := m
      clear hE hB hc hm hz hrg
      cases z with
      | false =>
        obtain rfl : R = false := by rw [← HRr.out, all_bad (P := lightM) Hm.out HZ.out]; rfl
        go_wp2_with (first
          | ((with_reducible refine at_load (ty := 37) ?_); refine load_cells rfl 37 (.tmp 23) rfl b (o + k * 10) rfl [.string nm, .string gp, .int .i64 r0, .int .i64 r1, .int .i64 r2, .int .i64 r3, .int .i64 r4, .slice la L.length lk, .slice ta T.length tk, .bool rd] _ Tryz.underlying37 rfl (by kernel_rfl) HRg.out ?_)
          | (go_at_call 28; (with_reducible refine (HCm.out _ HB.out).mono ?_); rintro e w3 ⟨rfl, hb3⟩; have HB3 := Lib.hid (HB.out.trans (hb3.mono hbz)); clear hb3))
        go_ret
        exact ⟨rfl, HB3.out⟩
      | true =>
        have HE2 := Lib.hid (all_take1 (P := lightM) Hm.out HZ.out HE.out)
        go_wp2_with (first
          | ((with_reducible refine at_load (ty := 37) ?_); refine load_cells rfl 37 (.tmp 23) rfl b (o + k * 10) rfl [.string nm, .string gp, .int .i64 r0, .int .i64 r1, .int .i64 r2, .int .i64 r3, .int .i64 r4, .slice la L.length lk, .slice ta T.length tk, .bool rd] _ Tryz.underlying37 rfl (by kernel_rfl) HRg.out ?_)
          | (go_at_call 28; (with_reducible refine (HCm.out _ HB.out).mono ?_); rintro e w3 ⟨rfl, hb3⟩; have HB3 := Lib.hid (HB.out.trans (hb3.mono hbz)); clear hb3))
        go_roundw
        case rel => exact ⟨k + 1, by omega, by go_num, HE2.out, HB3.out⟩
        case measure => simp [intOf]; omega
    · obtain rfl : k = n := by omega
      have HRq := Lib.hid (show bs.all lightBd = R by rw [← HRr.out, all_done (P := lightM) HN.out HE.out]; rfl)
      obtain ⟨w5, h5⟩ : ∃ w5, w5 = wr := ⟨_, rfl⟩
      subst h5
      clear hE hB
      go_wp2
      go_loopw [6] (fun vi wr => ∃ k : Nat, k ≤ q ∧ vi = .int .i64 k ∧ (bs.take k).all lightBd = true ∧ Below w.heap.size w wr) (fun vi _ => q - (intOf vi).toNat)
      case atStart => exact ⟨0, Nat.zero_le _, rfl, rfl, HB.out⟩
      case round =>
        clear HB HE hbz
        obtain ⟨k, hk, rfl, hE, hB⟩ := hrel
        have HE := Lib.hid hE
        have HB := Lib.hid hB
        have hbz := hB.size
        by_cases hlt : k < q
        · obtain ⟨m, hm⟩ := mem_at (l := bs) (k := k) (by rw [HQ.out]; exact hlt)
          obtain ⟨b, o, rfl, hb, hc⟩ := (HG.out.mono hB) (by rw [HQ.out]; omega)
          have hrg : wr.rangeAt b (o + k * 21) (prow m.p) := fun j v hj => by
            have hj20 : j < 20 := (List.getElem?_eq_some_iff.1 hj).1
            rw [hc k m hm j (by omega)]
            show (prow m.p ++ [.string m.on])[j]? = some v
            rw [List.getElem?_append_left hj20]
            exact hj
          have HRg := Lib.hid hrg
          have c20 : wr.cell? ⟨b, o + k * 21 + 20, none⟩ = some (.string m.on) := hc k m hm 20 (by decide)
          have Hm := Lib.hid hm
          have HCm := Lib.hid (fun V hV => HD.out m (List.mem_of_getElem? hm) V hV)
          obtain ⟨z, hz⟩ : ∃ z, lightP m.p = z := ⟨_, rfl⟩
          have HZ := Lib.hid (show lightBd m = (z && decide (m.on.size ≤ 300)) from by rw [← hz]; rfl)
          rw [hz] at HCm
          obtain ⟨p, on⟩ := m
          dsimp only at HRg HCm c20 HZ
          obtain ⟨ag, hag⟩ : ∃ ag, (prow p).toArray = ag := ⟨_, rfl⟩
          rw [hag] at HCm
          have HAg := Lib.hid hag
          clear hE hc hm hz hrg hag
          cases z with
          | false =>
            obtain rfl : R = false := by rw [← HRq.out]; exact all_bad (P := lightBd) Hm.out HZ.out
            go_wp2_with (first
              | ((with_reducible refine at_load (ty := 31) ?_); refine load_cells rfl 31 (.tmp 36) rfl b (o + k * 21) rfl (prow p) _ Tryz.underlying31 rfl (by kernel_rfl) HRg.out ?_; rw [HAg.out])
              | (go_at_call 16; (with_reducible refine (HCm.out _ HB.out).mono ?_); rintro e w3 ⟨rfl, hb3⟩; have HB3 := Lib.hid (HB.out.trans (hb3.mono hbz)); clear hb3))
            go_ret
            exact ⟨rfl, HB3.out⟩
          | true =>
            by_cases hon : on.size ≤ 300
            · have k3 : ¬ 300 < on.size := by omega
              have HE2 := Lib.hid (all_take1 (P := lightBd) Hm.out (by rw [HZ.out, decide_eq_true hon]; rfl) HE.out)
              clear hon
              go_wp2_with (first
                | ((with_reducible refine at_load (ty := 31) ?_); refine load_cells rfl 31 (.tmp 36) rfl b (o + k * 21) rfl (prow p) _ Tryz.underlying31 rfl (by kernel_rfl) HRg.out ?_; rw [HAg.out])
                | (go_at_call 16; (with_reducible refine (HCm.out _ HB.out).mono ?_); rintro e w3 ⟨rfl, hb3⟩; have HB3 := Lib.hid (HB.out.trans (hb3.mono hbz)); have c20 := (hb3.cell (p := ⟨b, o + k * 21 + 20, none⟩) hb).trans c20; have hbw3 := Nat.lt_of_lt_of_le hb hb3.size; clear hb3))
              go_roundw
              case rel => exact ⟨k + 1, by omega, by go_num, HE2.out, HB3.out⟩
              case measure => simp [intOf]; omega
            · have k3 : 300 < on.size := by omega
              obtain rfl : R = false := by rw [← HRq.out]; exact all_bad (P := lightBd) Hm.out (by rw [HZ.out, decide_eq_false hon]; rfl)
              clear hon
              go_wp2_with (first
                | ((with_reducible refine at_load (ty := 31) ?_); refine load_cells rfl 31 (.tmp 36) rfl b (o + k * 21) rfl (prow p) _ Tryz.underlying31 rfl (by kernel_rfl) HRg.out ?_; rw [HAg.out])
                | (go_at_call 16; (with_reducible refine (HCm.out _ HB.out).mono ?_); rintro e w3 ⟨rfl, hb3⟩; have HB3 := Lib.hid (HB.out.trans (hb3.mono hbz)); have c20 := (hb3.cell (p := ⟨b, o + k * 21 + 20, none⟩) hb).trans c20; have hbw3 := Nat.lt_of_lt_of_le hb hb3.size; clear hb3))
              go_ret
              exact ⟨rfl, HB3.out⟩
        · obtain rfl : k = q := by omega
          obtain rfl : R = true := by rw [← HRq.out]; exact all_done (P := lightBd) HQ.out HE.out
          clear hE hB
          go_wp2
          go_ret
          exact ⟨rfl, HB.out⟩
theorem Tryz.info31 : (Tryz.prog.info? 31).map (fun i => (i.zero, i.size, i.bytes)) = some (some (.agg #[.string ⟨#[]⟩, .int .i64 0, .int .i64 0, .int .i64 0, .int .i64 0, .int .i64 0, .slice none 0 0, .slice none 0 0, .slice none 0 0, .slice none 0 0, .slice none 0 0, .slice none 0 0, .bool false, .slice none 0 0, .int .i64 0, .int .i64 0, .string ⟨#[]⟩, .bool false, .bool false, .bool false]), 20, 272) := by kernel_rfl
theorem own_sl {w : World} {B n k : Nat} {v : Value} {e : TypeId} {xs : List Value} (h : w.ownsRow B e k v n xs) : ∃ a c, v = .slice a n c := by
  rcases h.2 with ⟨e, h0⟩ | ⟨g, cap, cur, e, _⟩
  · exact ⟨none, 0, by rw [e, h0]⟩
  · exact ⟨_, _, e⟩
/-- The pods that are on a machine. -/
def isOn (nm : ByteArray) (b : Bd) : Bool := decide (b.on = nm)
def onL (bs : List Bd) (nm : ByteArray) : List Pd := (bs.filter (isOn nm)).map Bd.p
theorem onL_next {bs : List Bd} {k : Nat} {b : Bd} (h : bs[k]? = some b) (nm : ByteArray) : onL (bs.take (k + 1)) nm = onL (bs.take k) nm ++ (if isOn nm b = true then [b.p] else []) := by
  unfold onL
  rw [List.take_add_one, h, List.filter_append, List.map_append]
  congr 1
  show (List.filter (isOn nm) [b]).map Bd.p = _
  rw [List.filter_cons]
  split <;> rfl
theorem onL_len (bs : List Bd) (nm : ByteArray) : (onL bs nm).length ≤ bs.length := by
  unfold onL
  rw [List.length_map]
  exact List.length_filter_le _ _
def GivesP (w : World) (L : List Pd) (e : Ending) (w' : World) : Prop := (∃ v, e = .returned v ∧ w'.ownsRow w.heap.size 31 20 v L.length (L.flatMap prow)) ∧ Below w.heap.size w w'
theorem prow_one (p : Pd) : ∀ u ∈ prow p, u.oneCell' = true := by
  intro u hu
  simp only [prow, List.mem_cons, List.not_mem_nil, or_false] at hu
  rcases hu with rfl | rfl | rfl | rfl | rfl | rfl | rfl | rfl | rfl | rfl | rfl | rfl | rfl | rfl | rfl | rfl | rfl | rfl | rfl | rfl <;> rfl
end Go.Proofs.YthbpnfpalcgfeaaGreat
