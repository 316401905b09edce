/-
  What CloudBounds keeps of names that were there and names that are gone, in plain words; among.
-/
import Derived.Test.YtcfdejlbchdciaaDoorClD
import Derived.Deep.AppendLies
namespace Go.Proofs.YtcfdejlbchdciaaDoor
open Go.RowKit
set_option linter.unusedVariables false
set_option linter.unusedSimpArgs false

theorem inc_G (s : CS) (nm : ByteArray) (n : Int) : (s.inc nm n).1.G = s.G := by
  unfold CS.inc
  repeat' split
  all_goals rfl
theorem del_G (s : CS) (nm : ByteArray) : (s.del nm).1.G = s.G := by
  unfold CS.del
  repeat' split
  all_goals rfl
theorem dec_G (s : CS) (nm : ByteArray) (n : Int) : (s.dec nm n).1.G = s.G := by
  unfold CS.dec
  repeat' split
  all_goals rfl
theorem brk_G (s : CS) (nm : ByteArray) (is : Bool) : (s.brk nm is).1.G = s.G := by
  unfold CS.brk
  repeat' split
  all_goals rfl
theorem fail_G (s : CS) (nm : ByteArray) : (s.fail nm).1.G = s.G := by
  unfold CS.fail
  repeat' split
  all_goals rfl
theorem ask_G (s : CS) (k : Int) (nm gp : ByteArray) (n : Int) (is : Bool) : (s.ask k nm gp n is).G = s.G := by
  unfold CS.ask
  repeat' split
  · exact inc_G _ _ _
  · exact del_G _ _
  · exact dec_G _ _ _
  · exact brk_G _ _ _
  · exact fail_G _ _
  · rfl
/-- What was there, and what is gone. -/
structure Hist (s : CS) (Hd Gn : List ByteArray) : Prop where
  nm : s.Nm
  hd : ∀ t ∈ Hd, t ∈ s.L.map Ins.nm
  gn : ∀ t ∈ Gn, Given s t ∧ t ∉ s.L.map Ins.nm
def amB (l : List ByteArray) (t : ByteArray) : Bool := l.any fun x => decide (x = t)
theorem amB_iff {l : List ByteArray} {t : ByteArray} : amB l t = true ↔ t ∈ l := by
  unfold amB
  rw [List.any_eq_true]
  simp only [decide_eq_true_eq]
  exact ⟨fun ⟨x, h, e⟩ => e ▸ h, fun h => ⟨t, h, rfl⟩⟩
theorem amB_no {l : List ByteArray} {t : ByteArray} (h : t ∉ l) : amB l t = false := by
  cases e : amB l t
  · rfl
  · exact absurd (amB_iff.1 e) h
theorem Hist.gone {s s' : CS} {Hd Gn : List ByteArray} (h : Hist s Hd Gn) (hs : Stp s s') : ∀ t ∈ s'.L.map Ins.nm, t ∉ Gn := fun t ht hg => by
  obtain ⟨h1, h2⟩ := h.gn t hg
  rcases hs.nw t ht with h3 | h3
  · exact h2 h3
  · exact h3 h1
theorem Hist.next {s s' : CS} {Hd Gn : List ByteArray} (h : Hist s Hd Gn) (hs : Stp s s') : Hist s' (s'.L.map Ins.nm) (Gn ++ Hd.filter fun t => !amB (s'.L.map Ins.nm) t) := by
  refine ⟨hs.nm, fun _ h => h, fun t ht => ?_⟩
  rcases List.mem_append.1 ht with ht | ht
  · exact ⟨hs.gv t (h.gn t ht).1, fun hm => h.gone hs t hm ht⟩
  · rw [List.mem_filter] at ht
    obtain ⟨x, hx, e⟩ := List.mem_map.1 (h.hd t ht.1)
    refine ⟨hs.gv t (e ▸ h.nm.own x hx), fun hm => ?_⟩
    have h2 := ht.2
    rw [amB_iff.2 hm] at h2
    exact absurd h2 (by decide)
/-- Names of different instances are different. -/
theorem take_fresh {L : List Ins} (h : (L.map Ins.nm).Nodup) {k : Nat} {x : Ins} (hx : L[k]? = some x) : x.nm ∉ (L.take k).map Ins.nm := fun hm => by
  have e : L = L.take k ++ x :: L.drop (k + 1) := by
    have h1 : L.drop k = x :: L.drop (k + 1) := by
      rw [List.drop_eq_getElem_cons (lt_at hx)]
      congr 1
      exact (List.getElem?_eq_some_iff.1 hx).2
    rw [← h1, List.take_append_drop]
  rw [e, List.map_append, List.nodup_append] at h
  refine h.2.2 x.nm ?_ x.nm (by simp) rfl
  exact hm
theorem take_names {L : List Ins} {k : Nat} {x : Ins} (hx : L[k]? = some x) : (L.take (k + 1)).map Ins.nm = (L.take k).map Ins.nm ++ [x.nm] := by
  rw [take_at hx, List.map_append]
  rfl

theorem in_own {B n k : Nat} {L : List Ins} {v : Value} {a : Option Addr} {w : World} (h : OwnL irow 5 B 35 L v w) (hv : v = .slice a n k) : InsL w a L := by
  obtain ⟨a', k', e, _, hr⟩ := OwnL.isL irow_len (by decide) h
  rw [hv] at e
  injection e with e1 e2 e3
  rw [e1]
  exact hr
theorem txt_own {B n k : Nat} {L : List ByteArray} {v : Value} {a : Option Addr} {w : World} (h : OwnL scs 1 B 9 L v w) (hv : v = .slice a n k) : TxtL w a L := by
  obtain ⟨a', k', e, _, hr⟩ := OwnL.isL scs_len (by decide) h
  rw [hv] at e
  injection e with e1 e2 e3
  rw [e1]
  exact hr

set_option maxRecDepth 100000 in
set_option maxHeartbeats 2000000 in
theorem among_any (a : Option Addr) (l : List ByteArray) (ka n : Nat) (t : ByteArray) (w : World) (hF : TxtL w a l) (hn : l.length = n) (hm : n ≤ 100000000) :
    Calls Tryd.prog 10 #[.slice a n ka, .string t] w fun e w' => e = .returned (.bool (amB l t)) ∧ Below w.heap.size w w' := by
  have HF := Lib.hid hF
  have HN := Lib.hid hn
  clear hF hn
  go_enter Tryd.func10, Tryd.ntmps10
  go_wp2
  go_loop [5] (fun i => ∃ k : Nat, k ≤ n ∧ i = .int .i64 k ∧ amB l t = amB (l.drop k) t) (fun i => n - (intOf i).toNat)
  case atStart => exact ⟨0, Nat.zero_le _, rfl, rfl⟩
  case round =>
    obtain ⟨k, hk, rfl, hA⟩ := hrel
    have HA := Lib.hid hA
    clear hA
    by_cases hlt : k < n
    · obtain ⟨x, hx⟩ := mem_at (l := l) (k := k) (by rw [HN.out]; exact hlt)
      obtain ⟨b, o, rfl, hb, hc⟩ := HF.out (by rw [HN.out]; omega)
      have c0 := hc k x hx 0 (by decide)
      simp only [scs, List.getElem?_cons_zero, Nat.mul_one, Nat.add_zero] at c0
      have hd : l.drop k = x :: l.drop (k + 1) := by
        rw [List.drop_eq_getElem_cons (lt_at hx)]
        congr 1
        exact (List.getElem?_eq_some_iff.1 hx).2
      have hA2 := HA.out
      rw [hd] at hA2
      have HA2 := Lib.hid hA2
      clear hc hx hd hA2
      by_cases he : x = t
      · have HR := Lib.hid (show amB l t = true from by rw [HA2.out]; unfold amB; rw [List.any_cons, decide_eq_true he]; rfl)
        have k1 : (x.toList == t.toList) = true := ctx_eq he
        clear he
        go_wp2
        go_ret
        exact ⟨by rw [HR.out]; rfl, by (repeat' (first | with_reducible exact Below.refl _ _ | with_reducible assumption | with_reducible refine Below.drew ?_ | with_reducible refine below_drewN' ?_ _ | with_reducible refine Below.alloc ?_ ?_ _ | with_reducible refine Below.setCell ?_ ?_ _ | with_reducible refine below_step (by assumption) ?_ ?_ | omega | (simp; done) | (simp; omega)))⟩
      · have HR := Lib.hid (show amB l t = amB (l.drop (k + 1)) t from by rw [HA2.out]; unfold amB; rw [List.any_cons, decide_eq_false he]; rfl)
        have k1 : (x.toList == t.toList) = false := ctx_ne he
        clear he
        go_wp2
        go_round
        case rel => exact ⟨k + 1, by omega, by go_num, HR.out⟩
        case measure => simp [intOf]; omega
    · obtain rfl : k = n := by omega
      have HR := Lib.hid (show amB l t = false from by rw [HA.out, List.drop_eq_nil_of_le (Nat.le_of_eq HN.out)]; rfl)
      go_wp2
      go_ret
      exact ⟨by rw [HR.out]; rfl, by (repeat' (first | with_reducible exact Below.refl _ _ | with_reducible assumption | with_reducible refine Below.drew ?_ | with_reducible refine below_drewN' ?_ _ | with_reducible refine Below.alloc ?_ ?_ _ | with_reducible refine Below.setCell ?_ ?_ _ | with_reducible refine below_step (by assumption) ?_ ?_ | omega | (simp; done) | (simp; omega)))⟩
end Go.Proofs.YtcfdejlbchdciaaDoor
