/-
  Yards: Find, Place, Check, On.
-/
import Derived.Test.YtkmhicoimgpdlaaND
import Derived.Test.YtkmhicoimgpdlaaMG
import Derived.Test.YtkmhicoimgpdlaaNE
namespace Go.Proofs.Ytkmhicoimgpdlaa
open Go.RowKit
set_option linter.unusedVariables false
set_option linter.unusedSimpArgs false

/-- Where a name stands first. -/
def findN : List ByteArray → ByteArray → Nat → Int
  | [], _, _ => -1
  | y :: l, x, k => if y = x then (k : Int) else findN l x (k + 1)
def twiceN (l : List ByteArray) : Bool := (List.range l.length).any fun i => decide (findN l (l.getD i emp) 0 < (i : Int))
theorem findN_at {l : List ByteArray} {x y : ByteArray} {k : Nat} (h : l[k]? = some y) : findN (l.drop k) x k = if y = x then (k : Int) else findN (l.drop (k + 1)) x (k + 1) := by
  obtain ⟨h1, h2⟩ := List.getElem?_eq_some_iff.1 h
  rw [List.drop_eq_getElem_cons h1, h2]
  rfl
theorem findN_range : ∀ (l : List ByteArray) (x : ByteArray) (k : Nat), findN l x k = -1 ∨ ((k : Int) ≤ findN l x k ∧ findN l x k < k + l.length)
  | [], _, _ => .inl rfl
  | y :: l, x, k => by
    unfold findN
    split
    · right; rw [List.length_cons]; omega
    · rcases findN_range l x (k + 1) with h | h
      · exact .inl h
      · right; rw [List.length_cons]; omega
theorem nm_at {ms : List Mac} {k : Nat} {m : Mac} (h : ms[k]? = some m) : (ms.map Mac.nm)[k]? = some m.nm := by rw [List.getElem?_map, h]; rfl
theorem str_yes {a b : ByteArray} (h : a = b) : (a.toList == b.toList) = true := by rw [h]; simp
theorem str_no {a b : ByteArray} (h : ¬ a = b) : (a.toList == b.toList) = false := by rw [beq_eq_false_iff_ne]; exact fun e => h ((str_inj _ _).1 e)
def pnm (b : Bd) : ByteArray := b.p.nm
theorem pnm_at {bs : List Bd} {k : Nat} {m : Bd} (h : bs[k]? = some m) : (bs.map pnm)[k]? = some (pnm m) := by rw [List.getElem?_map, h]; rfl
def onB (N : List ByteArray) (b : Bd) : Bool := decide (b.on = emp) || decide (0 ≤ findN N b.on 0)
/-- A machine that may stand in a yard. -/
def okM (m : Mac) : Bool := !decide (m.nm = emp) && rightM m
def okBd (b : Bd) : Bool := rightP b.p
/-- What is wrong of a yard. -/
def checkY (ms : List Mac) (bs : List Bd) : Int :=
  if 200 < ms.length ∨ 400 < bs.length then 7
  else if ¬ (ms.all okM = true ∧ bs.all okBd = true) then 12
  else if twiceN (ms.map Mac.nm) = true ∨ twiceN (bs.map pnm) = true then 15
  else if ¬ bs.all (onB (ms.map Mac.nm)) = true then 16 else 0
def lightBd (b : Bd) : Bool := lightP b.p && decide (b.on.size ≤ 300)
def lightY (ms : List Mac) (bs : List Bd) : Bool := decide (ms.length ≤ 20) && decide (bs.length ≤ 40) && ms.all lightM && bs.all lightBd
theorem lightY_iff {ms : List Mac} {bs : List Bd} (h : lightY ms bs = true) : ms.length ≤ 20 ∧ bs.length ≤ 40 ∧ (∀ m ∈ ms, lightM m = true) ∧ (∀ b ∈ bs, lightP b.p = true ∧ b.on.size ≤ 300) := by
  unfold lightY at h
  simp only [Bool.and_eq_true, decide_eq_true_eq, List.all_eq_true] at h
  refine ⟨h.1.1.1, h.1.1.2, h.1.2, fun b hb => ?_⟩
  have := h.2 b hb
  unfold lightBd at this
  simpa using this
set_option maxRecDepth 100000 in
set_option maxHeartbeats 4000000 in
theorem lighty_any (a : Option Addr) (ka : Nat) (ms : List Mac) (c : Option Addr) (kc : Nat) (bs : List Bd) (w : World) (hF : MacL w a ms) (hG : BndL w c bs) (hA : ∀ m ∈ ms, MacIn w m) (hB : ∀ b ∈ bs, BndIn w b) (hl : ms.length ≤ maxLen) (hl2 : bs.length ≤ maxLen) :
    Calls Try.prog 24 #[.slice a ms.length ka, .slice c bs.length kc] w fun e w' => e = .returned (.bool (lightY ms bs)) ∧ Below w.heap.size w w' := by
  obtain ⟨n, hn⟩ : ∃ n, ms.length = n := ⟨_, rfl⟩
  obtain ⟨q, hq⟩ : ∃ q, bs.length = q := ⟨_, rfl⟩
  have HN := Lib.hid hn
  have HQ := Lib.hid hq
  obtain ⟨R, hR⟩ : ∃ R, lightY ms bs = R := ⟨_, rfl⟩
  have HR := Lib.hid hR
  have HC := Lib.hid (fun (m : Mac) (hm : m ∈ ms) (V : World) (hV : Below w.heap.size w V) => lightm_any m V ((hA m hm).here.mono hV))
  have HD := Lib.hid (fun (m : Bd) (hm : m ∈ bs) (V : World) (hV : Below w.heap.size w V) => lightp_any m.p V ((hB m hm).here.mono hV))
  have HF := Lib.hid hF
  have HG := Lib.hid hG
  unfold maxLen at hl hl2
  rw [hn] at hl ⊢
  rw [hq] at hl2 ⊢
  rw [hR]
  unfold lightY at hR
  rw [hn, hq] at hR
  clear hn hq hF hG hA hB
  by_cases h20 : n ≤ 20
  rotate_left
  · obtain rfl : R = false := by rw [← hR, decide_eq_false h20]; rfl
    have k1 : 20 < n := by omega
    clear hR h20
    go_enter Try.func24, Try.ntmps24
    go_wp2
    go_ret
    exact ⟨rfl, by (repeat' (first | with_reducible exact Below.refl _ _ | with_reducible assumption | with_reducible refine Below.drew ?_ | with_reducible refine below_drewN' ?_ _ | with_reducible refine Below.alloc ?_ ?_ _ | with_reducible refine Below.setCell ?_ ?_ _ | with_reducible refine below_step (by assumption) ?_ ?_ | omega | (simp; done) | (simp; omega)))⟩
  by_cases h40 : q ≤ 40
  rotate_left
  · obtain rfl : R = false := by rw [← hR, decide_eq_true h20, decide_eq_false h40]; rfl
    have k1 : ¬ 20 < n := by omega
    have k2 : 40 < q := by omega
    clear hR h20 h40
    go_enter Try.func24, Try.ntmps24
    go_wp2
    go_ret
    exact ⟨rfl, by (repeat' (first | with_reducible exact Below.refl _ _ | with_reducible assumption | with_reducible refine Below.drew ?_ | with_reducible refine below_drewN' ?_ _ | with_reducible refine Below.alloc ?_ ?_ _ | with_reducible refine Below.setCell ?_ ?_ _ | with_reducible refine below_step (by assumption) ?_ ?_ | omega | (simp; done) | (simp; omega)))⟩
  rw [decide_eq_true h20, decide_eq_true h40] at hR
  have hR : (ms.all lightM && bs.all lightBd) = R := hR
  have k1 : ¬ 20 < n := by omega
  have k2 : ¬ 40 < q := by omega
  have HRr := Lib.hid hR
  clear hR
  go_enter Try.func24, Try.ntmps24
  go_wp2
  go_loopw [5] (fun vi wr => ∃ k : Nat, k ≤ n ∧ vi = .int .i64 k ∧ (ms.take k).all lightM = true ∧ Below w.heap.size w wr) (fun vi _ => n - (intOf vi).toNat)
  case atStart => exact ⟨0, Nat.zero_le _, rfl, rfl, by (repeat' (first | with_reducible exact Below.refl _ _ | with_reducible assumption | with_reducible refine Below.drew ?_ | with_reducible refine below_drewN' ?_ _ | with_reducible refine Below.alloc ?_ ?_ _ | with_reducible refine Below.setCell ?_ ?_ _ | with_reducible refine below_step (by assumption) ?_ ?_ | omega | (simp; done) | (simp; omega)))⟩
  case round =>
    obtain ⟨k, hk, rfl, hE, hB⟩ := hrel
    have HE := Lib.hid hE
    have HB := Lib.hid hB
    have hbz := hB.size
    by_cases hlt : k < n
    · obtain ⟨m, hm⟩ := mem_at (l := ms) (k := k) (by rw [HN.out]; exact hlt)
      obtain ⟨b, o, rfl, hb, hc⟩ := (HF.out.mono hB) (by rw [HN.out]; omega)
      have hrg : wr.rangeAt b (o + k * 10) (mrow m) := fun j v hj => by rw [hc k m hm j (by have := (List.getElem?_eq_some_iff.1 hj).1; exact this)]; exact hj
      have HRg := Lib.hid hrg
      have Hm := Lib.hid hm
      have HCm := Lib.hid (fun V hV => HC.out m (List.mem_of_getElem? hm) V hV)
      obtain ⟨z, hz⟩ : ∃ z, lightM m = z := ⟨_, rfl⟩
      have HZ := Lib.hid hz
      rw [hz] at HCm
      obtain ⟨nm, gp, r0, r1, r2, r3, r4, la, lk, L, ta, tk, T, rd⟩ := m
      clear hE hB hc hm hz hrg
      cases z with
      | false =>
        obtain rfl : R = false := by rw [← HRr.out, all_bad (P := lightM) Hm.out HZ.out]; rfl
        go_wp2_with (first
          | ((with_reducible refine at_load (ty := 35) ?_); refine load_cells rfl 35 (.tmp 23) rfl b (o + k * 10) rfl [.string nm, .string gp, .int .i64 r0, .int .i64 r1, .int .i64 r2, .int .i64 r3, .int .i64 r4, .slice la L.length lk, .slice ta T.length tk, .bool rd] _ Try.underlying35 rfl (by kernel_rfl) HRg.out ?_)
          | (go_at_call 42; (with_reducible refine (HCm.out _ HB.out).mono ?_); rintro e w3 ⟨rfl, hb3⟩; have HB3 := Lib.hid (HB.out.trans (hb3.mono hbz)); clear hb3))
        go_ret
        exact ⟨rfl, HB3.out⟩
      | true =>
        have HE2 := Lib.hid (all_take1 (P := lightM) Hm.out HZ.out HE.out)
        go_wp2_with (first
          | ((with_reducible refine at_load (ty := 35) ?_); refine load_cells rfl 35 (.tmp 23) rfl b (o + k * 10) rfl [.string nm, .string gp, .int .i64 r0, .int .i64 r1, .int .i64 r2, .int .i64 r3, .int .i64 r4, .slice la L.length lk, .slice ta T.length tk, .bool rd] _ Try.underlying35 rfl (by kernel_rfl) HRg.out ?_)
          | (go_at_call 42; (with_reducible refine (HCm.out _ HB.out).mono ?_); rintro e w3 ⟨rfl, hb3⟩; have HB3 := Lib.hid (HB.out.trans (hb3.mono hbz)); clear hb3))
        go_roundw
        case rel => exact ⟨k + 1, by omega, by go_num, HE2.out, HB3.out⟩
        case measure => simp [intOf]; omega
    · obtain rfl : k = n := by omega
      have HRq := Lib.hid (show bs.all lightBd = R by rw [← HRr.out, all_done (P := lightM) HN.out HE.out]; rfl)
      obtain ⟨w5, h5⟩ : ∃ w5, w5 = wr := ⟨_, rfl⟩
      subst h5
      clear hE hB
      go_wp2
      go_loopw [6] (fun vi wr => ∃ k : Nat, k ≤ q ∧ vi = .int .i64 k ∧ (bs.take k).all lightBd = true ∧ Below w.heap.size w wr) (fun vi _ => q - (intOf vi).toNat)
      case atStart => exact ⟨0, Nat.zero_le _, rfl, rfl, HB.out⟩
      case round =>
        clear HB HE hbz
        obtain ⟨k, hk, rfl, hE, hB⟩ := hrel
        have HE := Lib.hid hE
        have HB := Lib.hid hB
        have hbz := hB.size
        by_cases hlt : k < q
        · obtain ⟨m, hm⟩ := mem_at (l := bs) (k := k) (by rw [HQ.out]; exact hlt)
          obtain ⟨b, o, rfl, hb, hc⟩ := (HG.out.mono hB) (by rw [HQ.out]; omega)
          have hrg : wr.rangeAt b (o + k * 21) (prow m.p) := fun j v hj => by
            have hj20 : j < 20 := (List.getElem?_eq_some_iff.1 hj).1
            rw [hc k m hm j (by omega)]
            show (prow m.p ++ [.string m.on])[j]? = some v
            rw [List.getElem?_append_left hj20]
            exact hj
          have HRg := Lib.hid hrg
          have c20 : wr.cell? ⟨b, o + k * 21 + 20, none⟩ = some (.string m.on) := hc k m hm 20 (by decide)
          have Hm := Lib.hid hm
          have HCm := Lib.hid (fun V hV => HD.out m (List.mem_of_getElem? hm) V hV)
          obtain ⟨z, hz⟩ : ∃ z, lightP m.p = z := ⟨_, rfl⟩
          have HZ := Lib.hid (show lightBd m = (z && decide (m.on.size ≤ 300)) from by rw [← hz]; rfl)
          rw [hz] at HCm
          obtain ⟨p, on⟩ := m
          dsimp only at HRg HCm c20 HZ
          obtain ⟨ag, hag⟩ : ∃ ag, (prow p).toArray = ag := ⟨_, rfl⟩
          rw [hag] at HCm
          have HAg := Lib.hid hag
          clear hE hc hm hz hrg hag
          cases z with
          | false =>
            obtain rfl : R = false := by rw [← HRq.out]; exact all_bad (P := lightBd) Hm.out HZ.out
            go_wp2_with (first
              | ((with_reducible refine at_load (ty := 50) ?_); refine load_cells rfl 50 (.tmp 36) rfl b (o + k * 21) rfl (prow p) _ Try.underlying50 rfl (by kernel_rfl) HRg.out ?_; rw [HAg.out])
              | (go_at_call 43; (with_reducible refine (HCm.out _ HB.out).mono ?_); rintro e w3 ⟨rfl, hb3⟩; have HB3 := Lib.hid (HB.out.trans (hb3.mono hbz)); clear hb3))
            go_ret
            exact ⟨rfl, HB3.out⟩
          | true =>
            by_cases hon : on.size ≤ 300
            · have k3 : ¬ 300 < on.size := by omega
              have HE2 := Lib.hid (all_take1 (P := lightBd) Hm.out (by rw [HZ.out, decide_eq_true hon]; rfl) HE.out)
              clear hon
              go_wp2_with (first
                | ((with_reducible refine at_load (ty := 50) ?_); refine load_cells rfl 50 (.tmp 36) rfl b (o + k * 21) rfl (prow p) _ Try.underlying50 rfl (by kernel_rfl) HRg.out ?_; rw [HAg.out])
                | (go_at_call 43; (with_reducible refine (HCm.out _ HB.out).mono ?_); rintro e w3 ⟨rfl, hb3⟩; have HB3 := Lib.hid (HB.out.trans (hb3.mono hbz)); have c20 := (hb3.cell (p := ⟨b, o + k * 21 + 20, none⟩) hb).trans c20; have hbw3 := Nat.lt_of_lt_of_le hb hb3.size; clear hb3))
              go_roundw
              case rel => exact ⟨k + 1, by omega, by go_num, HE2.out, HB3.out⟩
              case measure => simp [intOf]; omega
            · have k3 : 300 < on.size := by omega
              obtain rfl : R = false := by rw [← HRq.out]; exact all_bad (P := lightBd) Hm.out (by rw [HZ.out, decide_eq_false hon]; rfl)
              clear hon
              go_wp2_with (first
                | ((with_reducible refine at_load (ty := 50) ?_); refine load_cells rfl 50 (.tmp 36) rfl b (o + k * 21) rfl (prow p) _ Try.underlying50 rfl (by kernel_rfl) HRg.out ?_; rw [HAg.out])
                | (go_at_call 43; (with_reducible refine (HCm.out _ HB.out).mono ?_); rintro e w3 ⟨rfl, hb3⟩; have HB3 := Lib.hid (HB.out.trans (hb3.mono hbz)); have c20 := (hb3.cell (p := ⟨b, o + k * 21 + 20, none⟩) hb).trans c20; have hbw3 := Nat.lt_of_lt_of_le hb hb3.size; clear hb3))
              go_ret
              exact ⟨rfl, HB3.out⟩
        · obtain rfl : k = q := by omega
          obtain rfl : R = true := by rw [← HRq.out]; exact all_done (P := lightBd) HQ.out HE.out
          clear hE hB
          go_wp2
          go_ret
          exact ⟨rfl, HB.out⟩
theorem Try.info50 : (Try.prog.info? 50).map (fun i => (i.zero, i.size, i.bytes)) = some (some (.agg #[.string ⟨#[]⟩, .int .i64 0, .int .i64 0, .int .i64 0, .int .i64 0, .int .i64 0, .slice none 0 0, .slice none 0 0, .slice none 0 0, .slice none 0 0, .slice none 0 0, .slice none 0 0, .bool false, .slice none 0 0, .int .i64 0, .int .i64 0, .string ⟨#[]⟩, .bool false, .bool false, .bool false]), 20, 272) := by kernel_rfl
theorem own_sl {w : World} {B n k : Nat} {v : Value} {e : TypeId} {xs : List Value} (h : w.ownsRow B e k v n xs) : ∃ a c, v = .slice a n c := by
  rcases h.2 with ⟨e, h0⟩ | ⟨g, cap, cur, e, _⟩
  · exact ⟨none, 0, by rw [e, h0]⟩
  · exact ⟨_, _, e⟩
/-- The pods that are on a machine. -/
def isOn (nm : ByteArray) (b : Bd) : Bool := decide (b.on = nm)
def onL (bs : List Bd) (nm : ByteArray) : List Pd := (bs.filter (isOn nm)).map Bd.p
theorem onL_next {bs : List Bd} {k : Nat} {b : Bd} (h : bs[k]? = some b) (nm : ByteArray) : onL (bs.take (k + 1)) nm = onL (bs.take k) nm ++ (if isOn nm b = true then [b.p] else []) := by
  unfold onL
  rw [List.take_add_one, h, List.filter_append, List.map_append]
  congr 1
  show (List.filter (isOn nm) [b]).map Bd.p = _
  rw [List.filter_cons]
  split <;> rfl
theorem onL_len (bs : List Bd) (nm : ByteArray) : (onL bs nm).length ≤ bs.length := by
  unfold onL
  rw [List.length_map]
  exact List.length_filter_le _ _
def GivesP (w : World) (L : List Pd) (e : Ending) (w' : World) : Prop := (∃ v, e = .returned v ∧ w'.ownsRow w.heap.size 50 20 v L.length (L.flatMap prow)) ∧ Below w.heap.size w w'
theorem prow_one (p : Pd) : ∀ u ∈ prow p, u.oneCell' = true := by
  intro u hu
  simp only [prow, List.mem_cons, List.not_mem_nil, or_false] at hu
  rcases hu with rfl | rfl | rfl | rfl | rfl | rfl | rfl | rfl | rfl | rfl | rfl | rfl | rfl | rfl | rfl | rfl | rfl | rfl | rfl | rfl <;> rfl
set_option maxRecDepth 100000 in
set_option maxHeartbeats 4000000 in
theorem on_any (a : Option Addr) (ka : Nat) (bs : List Bd) (mm : ByteArray) (w : World) (hF : BndL w a bs) (hl : bs.length ≤ 1000000) :
    Calls Try.prog 34 #[.slice a bs.length ka, .string mm] w (GivesP w (onL bs mm)) := by
  obtain ⟨n, hn⟩ : ∃ n, bs.length = n := ⟨_, rfl⟩
  have HN := Lib.hid hn
  have HF := Lib.hid hF
  rw [hn] at hl ⊢
  clear hn hF
  obtain ⟨i0, hi, hz0, hz1, hz2⟩ := info_parts Try.info50
  have Hi := Lib.hid hi
  have Hz0 := Lib.hid hz0
  have Hz1 := Lib.hid hz1
  have Hz2 := Lib.hid hz2
  clear hi hz0 hz1 hz2
  go_enter Try.func34, Try.ntmps34
  go_wp2
  go_loopw [5, 9] (fun vo vi wr => ∃ (k : Nat) (Q : List Pd), k ≤ n ∧ vi = .int .i64 k ∧ Q = onL (bs.take k) mm ∧ Q.length ≤ k ∧ wr.ownsRow w.heap.size 50 20 vo Q.length (Q.flatMap prow) ∧ Below w.heap.size w wr) (fun _ vi _ => n - (intOf vi).toNat)
  case atStart => exact ⟨0, [], Nat.zero_le _, rfl, rfl, Nat.le_refl _, World.ownsRow_nil _ _ _ _, by (repeat' (first | with_reducible exact Below.refl _ _ | with_reducible assumption | with_reducible refine Below.drew ?_ | with_reducible refine below_drewN' ?_ _ | with_reducible refine Below.alloc ?_ ?_ _ | with_reducible refine Below.setCell ?_ ?_ _ | with_reducible refine below_step (by assumption) ?_ ?_ | omega | (simp; done) | (simp; omega)))⟩
  case round =>
    obtain ⟨k, Q, hk, rfl, hE, hLk, hO, hB⟩ := hrel
    have HE := Lib.hid hE
    have HB := Lib.hid hB
    have HO := Lib.hid hO
    have hbz := hB.size
    obtain ⟨ao, ko, rfl⟩ := own_sl hO
    by_cases hlt : k < n
    · obtain ⟨m, hm⟩ := mem_at (l := bs) (k := k) (by rw [HN.out]; exact hlt)
      obtain ⟨b, o, rfl, hb, hc⟩ := (HF.out.mono hB) (by rw [HN.out]; omega)
      have hrg : wr.rangeAt b (o + k * 21) (prow m.p) := fun j v hj => by
        have hj20 : j < 20 := (List.getElem?_eq_some_iff.1 hj).1
        rw [hc k m hm j (by omega)]
        show (prow m.p ++ [.string m.on])[j]? = some v
        rw [List.getElem?_append_left hj20]
        exact hj
      have HRg := Lib.hid hrg
      have c20 : wr.cell? ⟨b, o + k * 21 + 20, none⟩ = some (.string m.on) := hc k m hm 20 (by decide)
      have hnx := onL_next hm mm
      obtain ⟨p, on⟩ := m
      dsimp only at HRg c20 hnx
      by_cases ho : on = mm
      · have q := str_yes ho
        rw [if_pos (show isOn mm ⟨p, on⟩ = true from decide_eq_true ho), ← hE] at hnx
        have HNx := Lib.hid hnx
        obtain ⟨nm, n0, n1, n2, n3, n4, la, lk, L, sa, sk, S, ta, tk, T, ba, bk, B, pa, pk, P, aa, ak, A, wd, da, dk, D, sw, rk, ow, dm, pn, lc⟩ := p
        have HRg := Lib.hid (show wr.rangeAt b (o + k * 21) [.string nm, .int .i64 n0, .int .i64 n1, .int .i64 n2, .int .i64 n3, .int .i64 n4, .slice la L.length lk, .slice sa S.length sk, .slice ta T.length tk, .slice ba B.length bk, .slice pa P.length pk, .slice aa A.length ak, .bool wd, .slice da D.length dk, .int .i64 sw, .int .i64 rk, .string ow, .bool dm, .bool pn, .bool lc] from HRg.out)
        have HNx := Lib.hid (show Q ++ [(⟨nm, n0, n1, n2, n3, n4, la, lk, L, sa, sk, S, ta, tk, T, ba, bk, B, pa, pk, P, aa, ak, A, wd, da, dk, D, sw, rk, ow, dm, pn, lc⟩ : Pd)] = onL (bs.take (k + 1)) mm from HNx.out.symm)
        obtain ⟨pb, hpb⟩ : ∃ pb, (⟨nm, n0, n1, n2, n3, n4, la, lk, L, sa, sk, S, ta, tk, T, ba, bk, B, pa, pk, P, aa, ak, A, wd, da, dk, D, sw, rk, ow, dm, pn, lc⟩ : Pd) = pb := ⟨_, rfl⟩
        have HP := Lib.hid (show prow pb = [.string nm, .int .i64 n0, .int .i64 n1, .int .i64 n2, .int .i64 n3, .int .i64 n4, .slice la L.length lk, .slice sa S.length sk, .slice ta T.length tk, .slice ba B.length bk, .slice pa P.length pk, .slice aa A.length ak, .bool wd, .slice da D.length dk, .int .i64 sw, .int .i64 rk, .string ow, .bool dm, .bool pn, .bool lc] by rw [← hpb]; rfl)
        rw [hpb] at HNx
        clear hE hO hB hc hm hrg hnx ho hpb
        go_wp2_with (first
          | ((with_reducible refine at_load (ty := 50) ?_); refine load_cells rfl 50 (.tmp 23) rfl b (o + k * 21) rfl [.string nm, .int .i64 n0, .int .i64 n1, .int .i64 n2, .int .i64 n3, .int .i64 n4, .slice la L.length lk, .slice sa S.length sk, .slice ta T.length tk, .slice ba B.length bk, .slice pa P.length pk, .slice aa A.length ak, .bool wd, .slice da D.length dk, .int .i64 sw, .int .i64 rk, .string ow, .bool dm, .bool pn, .bool lc] _ Try.underlying50 rfl (by kernel_rfl) HRg.out ?_)
          | (at_builtin; refine wpList_append_src rfl (.tmp 19) (.tmp 25) 42 rfl w.heap.size 50 i0 _ 20 272 Try.underlying42 Hi.out Hz0.out Hz1.out Hz2.out rfl (by decide) _ Q.length (Q.flatMap prow) rfl (HO.out.alloc _) (some ⟨wr.heap.size, 0, none⟩) 1 1 [.string nm, .int .i64 n0, .int .i64 n1, .int .i64 n2, .int .i64 n3, .int .i64 n4, .slice la L.length lk, .slice sa S.length sk, .slice ta T.length tk, .slice ba B.length bk, .slice pa P.length pk, .slice aa A.length ak, .bool wd, .slice da D.length dk, .int .i64 sw, .int .i64 rk, .string ow, .bool dm, .bool pn, .bool lc] rfl rfl (fun q e => by injection e with e; rw [← e]; exact news_at _ _ _) (fun e => by cases e) (HP.out ▸ prow_one pb) (by unfold maxLen; omega) (by omega) (by simp; omega) ?_; intro v6 w6 hown6 hgrow6; obtain ⟨a6, k6, rfl⟩ := own_sl hown6; have HB6 := Lib.hid (own_below (HO.out.alloc _) (HB.out.alloc hbz _) (by simp; omega) hgrow6); have HO6 := Lib.hid hown6; clear hown6 hgrow6))
        go_roundw
        case rel =>
          refine ⟨k + 1, Q ++ [pb], by omega, by go_num, HNx.out, by rw [List.length_append]; show Q.length + 1 ≤ _; omega, ?_, HB6.out⟩
          rw [List.length_append, List.flatMap_append]
          have h9 := HO6.out
          rw [← HP.out] at h9
          simpa using h9
        case measure => simp [intOf]; omega
      · have q := str_no ho
        rw [if_neg (show ¬ isOn mm ⟨p, on⟩ = true from fun e => ho (of_decide_eq_true e)), List.append_nil, ← hE] at hnx
        have HNx := Lib.hid hnx.symm
        clear hE hO hB hc hm hrg hnx ho
        go_wp2
        go_roundw
        case rel => exact ⟨k + 1, Q, by omega, by go_num, HNx.out, by omega, HO.out, HB.out⟩
        case measure => simp [intOf]; omega
    · obtain rfl : k = n := by omega
      have hL : Q = onL bs mm := by rw [hE, List.take_of_length_le (by rw [HN.out]; exact Nat.le_refl _)]
      have HL := Lib.hid hL
      clear hE hO hB hL
      go_wp2
      refine bodyPost_ret (v := .slice ao Q.length ko) (by simp [results, Try.results34, go_sem]) rfl ⟨⟨_, rfl, by rw [← HL.out]; exact HO.out⟩, HB.out⟩
end Go.Proofs.Ytkmhicoimgpdlaa
