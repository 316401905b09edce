/-
  Kin: Find of both, the document's Light.
-/
import Derived.Test.YtccplljbljpjpaaDoorKi1
namespace Go.Proofs.YtccplljbljpjpaaDoor
open Go.ChangeShapes Go.WideShapes Go.ChangeAt Go.RowKit
set_option linter.unusedVariables false
set_option linter.unusedSimpArgs false

/-- Where a name stands first. -/
def findN : List ByteArray → ByteArray → Nat → Int
  | [], _, _ => -1
  | y :: l, x, k => if y = x then (k : Int) else findN l x (k + 1)
theorem findN_at {l : List ByteArray} {x y : ByteArray} {k : Nat} (h : l[k]? = some y) : findN (l.drop k) x k = if y = x then (k : Int) else findN (l.drop (k + 1)) x (k + 1) := by
  obtain ⟨h1, h2⟩ := List.getElem?_eq_some_iff.1 h
  rw [List.drop_eq_getElem_cons h1, h2]
  rfl
theorem kstr_yes {a b : ByteArray} (h : a = b) : (a.toList == b.toList) = true := by rw [h]; simp
theorem kstr_no {a b : ByteArray} (h : ¬ a = b) : (a.toList == b.toList) = false := by rw [beq_eq_false_iff_ne]; exact fun e => h ((str_inj _ _).1 e)
theorem pdnm_at {l : List Pd} {k : Nat} {m : Pd} (h : l[k]? = some m) : (l.map Pd.nm)[k]? = some m.nm := by rw [List.getElem?_map, h]; rfl
theorem kprow_one (p : Pd) : ∀ u ∈ prow p, u.oneCell' = true := by
  intro u hu
  simp only [prow, List.mem_cons, List.not_mem_nil, or_false] at hu
  rcases hu with rfl | rfl | rfl | rfl | rfl | rfl | rfl | rfl | rfl | rfl | rfl | rfl | rfl | rfl | rfl | rfl | rfl | rfl | rfl | rfl <;> rfl
set_option maxRecDepth 100000 in
set_option maxHeartbeats 4000000 in
theorem sfind_any (a : Option Addr) (ka : Nat) (l : List Pd) (nm : ByteArray) (w : World) (hF : PodLs w a l) (hl : l.length ≤ 1000000) :
    Calls Tryd.prog 14 #[.slice a l.length ka, .string nm] w fun e w' => e = .returned (.int .i64 (findN (l.map Pd.nm) nm 0)) ∧ Below w.heap.size w w' := by
  obtain ⟨n, hn⟩ : ∃ n, l.length = n := ⟨_, rfl⟩
  obtain ⟨N, hN⟩ : ∃ N, l.map Pd.nm = N := ⟨_, rfl⟩
  have HN := Lib.hid hn
  have HM := Lib.hid hN
  have HL := Lib.hid (show N.length = n by rw [← hN, List.length_map, hn])
  obtain ⟨R, hR⟩ : ∃ R, findN N nm 0 = R := ⟨_, rfl⟩
  have HR := Lib.hid (show findN (N.drop 0) nm 0 = R from hR)
  have HF := Lib.hid hF
  rw [hn] at hl ⊢
  rw [hN, hR]
  clear hn hN hR hF
  go_enter Tryd.func14, Tryd.ntmps14
  go_wp2
  go_loopw [9] (fun vi wr => ∃ k : Nat, k ≤ n ∧ vi = .int .i64 k ∧ findN (N.drop k) nm k = R ∧ Below w.heap.size w wr) (fun vi _ => n - (intOf vi).toNat)
  case atStart => exact ⟨0, Nat.zero_le _, rfl, HR.out, Below.refl _ _⟩
  case round =>
    clear HR
    obtain ⟨k, hk, rfl, hE, hB⟩ := hrel
    have HE := Lib.hid hE
    have hbz := hB.size
    clear hE
    by_cases hlt : k < n
    · obtain ⟨p, hp⟩ := mem_at (l := l) (k := k) (by rw [HN.out]; exact hlt)
      obtain ⟨b, o, rfl, hb, hc⟩ := (HF.out.mono hB) (by rw [HN.out]; omega)
      have HRq := Lib.hid (show wr.rangeAt b (o + k * 20) [.string (p).nm, .int .i64 (p).n0, .int .i64 (p).n1, .int .i64 (p).n2, .int .i64 (p).n3, .int .i64 (p).n4, .slice (p).la (p).labs.length (p).lk, .slice (p).sa (p).sels.length (p).sk, .slice (p).ta (p).trms.length (p).tk, .slice (p).ba (p).bers.length (p).bk, .slice (p).pa (p).prts.length (p).pk, .slice (p).aa (p).aprs.length (p).ak, .bool (p).wd, .slice (p).da (p).spds.length (p).dk, .int .i64 (p).sw, .int .i64 (p).rk, .string (p).ow, .bool (p).dm, .bool (p).pn, .bool (p).lc] from fun j v hj => by
        have hj20 : j < 20 := (List.getElem?_eq_some_iff.1 hj).1
        rw [hc k p hp j hj20]
        exact hj)
      have hmN := pdnm_at hp
      rw [HM.out] at hmN
      have HNx := Lib.hid ((findN_at (x := nm) hmN).symm.trans HE.out)
      obtain ⟨Z, hZ⟩ : ∃ Z, wr.heap.size = Z := ⟨_, rfl⟩
      obtain ⟨w5, hw5⟩ : ∃ V, V = wr.alloc (.cells #[.string (p).nm, .int .i64 (p).n0, .int .i64 (p).n1, .int .i64 (p).n2, .int .i64 (p).n3, .int .i64 (p).n4, .slice (p).la (p).labs.length (p).lk, .slice (p).sa (p).sels.length (p).sk, .slice (p).ta (p).trms.length (p).tk, .slice (p).ba (p).bers.length (p).bk, .slice (p).pa (p).prts.length (p).pk, .slice (p).aa (p).aprs.length (p).ak, .bool (p).wd, .slice (p).da (p).spds.length (p).dk, .int .i64 (p).sw, .int .i64 (p).rk, .string (p).ow, .bool (p).dm, .bool (p).pn, .bool (p).lc] 37) := ⟨_, rfl⟩
      have HZ5 := Lib.hid (show Box Z (prow p) w5 by rw [hw5, ← hZ]; exact Box.new wr (prow p) 37)
      have HB5 := Lib.hid (show Below w.heap.size w w5 by rw [hw5]; exact hB.alloc hbz _)
      have z0 : w5.cell? ⟨Z, 0, none⟩ = some (.string p.nm) := HZ5.out.cell 0
      have hlz := HZ5.out.lt
      have HP := Lib.hid (kprow_one p)
      clear hc hp hmN hB HE
      go_upto_region 4 with (first
        | ((with_reducible refine at_load (ty := 37) ?_); refine load_cells rfl 37 (.tmp 12) rfl b (o + k * 20) rfl [.string (p).nm, .int .i64 (p).n0, .int .i64 (p).n1, .int .i64 (p).n2, .int .i64 (p).n3, .int .i64 (p).n4, .slice (p).la (p).labs.length (p).lk, .slice (p).sa (p).sels.length (p).sk, .slice (p).ta (p).trms.length (p).tk, .slice (p).ba (p).bers.length (p).bk, .slice (p).pa (p).prts.length (p).pk, .slice (p).aa (p).aprs.length (p).ak, .bool (p).wd, .slice (p).da (p).spds.length (p).dk, .int .i64 (p).sw, .int .i64 (p).rk, .string (p).ow, .bool (p).dm, .bool (p).pn, .bool (p).lc] _ Tryd.underlying37 rfl (by kernel_rfl) HRq.out ?_)
        | ((with_reducible refine at_store (ty := 37) ?_); refine store_new rfl 37 (.tmp 6) (.tmp 13) rfl _ _ (by first | rfl | (show _ = Value.pointer (some ⟨wr.heap.size, 0, none⟩); rw [hZ]; rfl)) rfl (by kernel_rfl) rfl (List.all_eq_true.2 HP.out) rfl ?_))
      (try rw [hZ])
      rw [← hw5]
      clear hw5 hZ
      obtain ⟨y, hy⟩ : ∃ y, p.nm = y := ⟨_, rfl⟩
      rw [hy] at z0
      have HNy := Lib.hid (show (if y = nm then (k : Int) else findN (N.drop (k + 1)) nm (k + 1)) = R by rw [← hy]; exact HNx.out)
      clear HNx hy HP HRq
      by_cases he : y = nm
      · have q := kstr_yes he
        obtain rfl : R = (k : Int) := by have := HNy.out; rw [if_pos he] at this; exact this.symm
        clear he
        go_wp2
        go_ret
        exact ⟨rfl, HB5.out⟩
      · have q := kstr_no he
        have HNz := Lib.hid (show findN (N.drop (k + 1)) nm (k + 1) = R by have := HNy.out; rw [if_neg he] at this; exact this)
        clear he
        go_wp2
        go_roundw
        case rel => exact ⟨k + 1, by omega, by go_num, HNz.out, HB5.out⟩
        case measure => simp [intOf]; omega
    · obtain rfl : k = n := by omega
      obtain rfl : R = -1 := by
        rw [← HE.out, List.drop_of_length_le (by rw [HL.out]; exact Nat.le_refl _)]
        rfl
      have HBf := Lib.hid hB
      clear hB
      go_wp2
      go_ret
      exact ⟨rfl, HBf.out⟩
/-- Pods are few, and short. -/
def lightK (l : List Pd) : Bool := decide (l.length ≤ 60) && l.all lightP
theorem all_at {l : List Pd} {k : Nat} {p : Pd} (f : Pd → Bool) (h : l[k]? = some p) : (l.drop k).all f = (f p && (l.drop (k + 1)).all f) := by
  obtain ⟨h1, h2⟩ := List.getElem?_eq_some_iff.1 h
  rw [List.drop_eq_getElem_cons h1, h2]
  rfl
set_option maxRecDepth 100000 in
set_option maxHeartbeats 4000000 in
theorem klight_any (a : Option Addr) (ka : Nat) (l : List Pd) (w : World) (hF : PodLs w a l) (hl : l.length ≤ maxLen) (hI : ∀ x ∈ l, PodAt w x) :
    Calls Tryd.prog 5 #[.slice a l.length ka] w fun e w' => e = .returned (.bool (lightK l)) ∧ Below w.heap.size w w' := by
  unfold lightK
  unfold maxLen at hl
  obtain ⟨n, hn⟩ : ∃ n, l.length = n := ⟨_, rfl⟩
  have HN := Lib.hid hn
  have HF := Lib.hid hF
  have HI := Lib.hid hI
  obtain ⟨R, hR⟩ : ∃ R, l.all lightP = R := ⟨_, rfl⟩
  have HR := Lib.hid (show (l.drop 0).all lightP = R from hR)
  rw [hn] at hl ⊢
  rw [hR]
  clear hn hR hF hI
  by_cases h60 : n ≤ 60
  · rw [decide_eq_true h60, Bool.true_and]
    go_enter Tryd.func5, Tryd.ntmps5
    go_wp2
    go_loopw [3] (fun vi wr => ∃ k : Nat, k ≤ n ∧ vi = .int .i64 k ∧ (l.drop k).all lightP = R ∧ Below w.heap.size w wr) (fun vi _ => n - (intOf vi).toNat)
    case atStart => exact ⟨0, Nat.zero_le _, rfl, HR.out, Below.refl _ _⟩
    case round =>
      clear HR
      obtain ⟨k, hk, rfl, hE, hB⟩ := hrel
      have hbz := hB.size
      have HB := Lib.hid hB
      by_cases hlt : k < n
      · obtain ⟨p, hp⟩ := mem_at (l := l) (k := k) (by rw [HN.out]; exact hlt)
        obtain ⟨b, o, rfl, hb, hc⟩ := (HF.out.mono hB) (by rw [HN.out]; omega)
        have HRq := Lib.hid (show wr.rangeAt b (o + k * 20) [.string (p).nm, .int .i64 (p).n0, .int .i64 (p).n1, .int .i64 (p).n2, .int .i64 (p).n3, .int .i64 (p).n4, .slice (p).la (p).labs.length (p).lk, .slice (p).sa (p).sels.length (p).sk, .slice (p).ta (p).trms.length (p).tk, .slice (p).ba (p).bers.length (p).bk, .slice (p).pa (p).prts.length (p).pk, .slice (p).aa (p).aprs.length (p).ak, .bool (p).wd, .slice (p).da (p).spds.length (p).dk, .int .i64 (p).sw, .int .i64 (p).rk, .string (p).ow, .bool (p).dm, .bool (p).pn, .bool (p).lc] from fun j v hj => by
          have hj20 : j < 20 := (List.getElem?_eq_some_iff.1 hj).1
          rw [hc k p hp j hj20]
          exact hj)
        have hC := fun V (hV : Below wr.heap.size wr V) => show Calls Tryd.prog 11 #[.agg #[.string (p).nm, .int .i64 (p).n0, .int .i64 (p).n1, .int .i64 (p).n2, .int .i64 (p).n3, .int .i64 (p).n4, .slice (p).la (p).labs.length (p).lk, .slice (p).sa (p).sels.length (p).sk, .slice (p).ta (p).trms.length (p).tk, .slice (p).ba (p).bers.length (p).bk, .slice (p).pa (p).prts.length (p).pk, .slice (p).aa (p).aprs.length (p).ak, .bool (p).wd, .slice (p).da (p).spds.length (p).dk, .int .i64 (p).sw, .int .i64 (p).rk, .string (p).ow, .bool (p).dm, .bool (p).pn, .bool (p).lc]] V fun e V' => e = .returned (.bool (lightP p)) ∧ Below V.heap.size V V' from lightp_any p V ((HI.out p (List.mem_of_getElem? hp)).mono (HB.out.trans (hV.mono hbz)))
        have hnx := (all_at lightP hp).symm.trans hE
        obtain ⟨m, hm⟩ : ∃ m, lightP p = m := ⟨_, rfl⟩
        rw [hm] at hC hnx
        have HC := Lib.hid hC
        have HNx := Lib.hid hnx
        clear hc hp hB hE hC hnx hm
        cases m with
        | true =>
          have HNy := Lib.hid (show (l.drop (k + 1)).all lightP = R by have := HNx.out; rwa [Bool.true_and] at this)
          go_wp2_with (first
            | ((with_reducible refine at_load (ty := 37) ?_); refine load_cells rfl 37 (.tmp 15) rfl b (o + k * 20) rfl [.string (p).nm, .int .i64 (p).n0, .int .i64 (p).n1, .int .i64 (p).n2, .int .i64 (p).n3, .int .i64 (p).n4, .slice (p).la (p).labs.length (p).lk, .slice (p).sa (p).sels.length (p).sk, .slice (p).ta (p).trms.length (p).tk, .slice (p).ba (p).bers.length (p).bk, .slice (p).pa (p).prts.length (p).pk, .slice (p).aa (p).aprs.length (p).ak, .bool (p).wd, .slice (p).da (p).spds.length (p).dk, .int .i64 (p).sw, .int .i64 (p).rk, .string (p).ow, .bool (p).dm, .bool (p).pn, .bool (p).lc] _ Tryd.underlying37 rfl (by kernel_rfl) HRq.out ?_)
            | (go_at_call 11; (with_reducible refine (HC.out _ (Below.refl _ _)).mono ?_); rintro e w9 ⟨rfl, hb9⟩; have HB9 := Lib.hid (HB.out.trans (hb9.mono hbz)); clear hb9))
          go_roundw
          case rel => exact ⟨k + 1, by omega, by go_num, HNy.out, HB9.out⟩
          case measure => simp [intOf]; omega
        | false =>
          obtain rfl : R = false := by have := HNx.out; rw [Bool.false_and] at this; exact this.symm
          go_wp2_with (first
            | ((with_reducible refine at_load (ty := 37) ?_); refine load_cells rfl 37 (.tmp 15) rfl b (o + k * 20) rfl [.string (p).nm, .int .i64 (p).n0, .int .i64 (p).n1, .int .i64 (p).n2, .int .i64 (p).n3, .int .i64 (p).n4, .slice (p).la (p).labs.length (p).lk, .slice (p).sa (p).sels.length (p).sk, .slice (p).ta (p).trms.length (p).tk, .slice (p).ba (p).bers.length (p).bk, .slice (p).pa (p).prts.length (p).pk, .slice (p).aa (p).aprs.length (p).ak, .bool (p).wd, .slice (p).da (p).spds.length (p).dk, .int .i64 (p).sw, .int .i64 (p).rk, .string (p).ow, .bool (p).dm, .bool (p).pn, .bool (p).lc] _ Tryd.underlying37 rfl (by kernel_rfl) HRq.out ?_)
            | (go_at_call 11; (with_reducible refine (HC.out _ (Below.refl _ _)).mono ?_); rintro e w9 ⟨rfl, hb9⟩; have HB9 := Lib.hid (HB.out.trans (hb9.mono hbz)); clear hb9))
          go_ret
          exact ⟨rfl, HB9.out⟩
      · obtain rfl : k = n := by omega
        obtain rfl : R = true := by
          rw [← hE, List.drop_of_length_le (by rw [HN.out]; exact Nat.le_refl _)]
          rfl
        clear hE
        go_wp2
        go_ret
        exact ⟨rfl, HB.out⟩
  · rw [decide_eq_false h60, Bool.false_and]
    go_enter Tryd.func5, Tryd.ntmps5
    go_wp2
    go_ret
    exact ⟨rfl, Below.refl _ _⟩
end Go.Proofs.YtccplljbljpjpaaDoor
