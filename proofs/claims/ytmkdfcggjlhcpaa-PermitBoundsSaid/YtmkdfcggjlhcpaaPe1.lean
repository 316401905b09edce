/-
  The contract of permit.State.find.
-/
import Derived.Test.YtmkdfcggjlhcpaaPeP
namespace Go.Proofs.Ytmkdfcggjlhcpaa
open Go.RowKit
set_option linter.unusedVariables false
set_option linter.unusedSimpArgs false

set_option maxRecDepth 100000 in
set_option maxHeartbeats 1000000 in
theorem pfc_any (x : Ins) (key : ByteArray) (b : Nat) (w : World) (hb : b < w.heap.size) (hc : w.cell? ⟨b, 0, none⟩ = some (.string key)) :
    Calls Try.prog 37 #[.agg #[.string x.nm, .string x.gp, .int .i64 x.st, .int .i64 x.lf, .int .i64 x.si], .pointer (some ⟨b, 0, none⟩)] w fun e w' => e = .returned (.bool (nmB x.nm key)) ∧ Below w.heap.size w w' := by
  have He := Lib.hid (nmB_list x.nm key)
  cases h : nmB x.nm key
  all_goals
    have hd := He.out
    rw [h] at hd
    have H := Lib.hid h
    clear h
    go_enter Try.func37, Try.ntmps37
    go_wp2
    go_ret
    exact ⟨rfl, by (repeat' (first | with_reducible exact Below.refl _ _ | with_reducible assumption | with_reducible refine Below.drew ?_ | with_reducible refine below_drewN' ?_ _ | with_reducible refine Below.alloc ?_ ?_ _ | with_reducible refine Below.setCell ?_ ?_ _ | with_reducible refine below_step (by assumption) ?_ ?_ | omega | (simp; done) | (simp; omega)))⟩

set_option maxRecDepth 100000 in
set_option maxHeartbeats 2000000 in
theorem pidxf_any (a : Option Addr) (L : List Ins) (ka : Nat) (key : ByteArray) (b : Nat) (w : World) (hI : InsL w a L) (hn : L.length ≤ 1000000) (hb : b < w.heap.size) (hc : w.cell? ⟨b, 0, none⟩ = some (.string key)) :
    Calls Try.prog 36 #[.slice a L.length ka, .func (.func 37) #[] #[.pointer (some ⟨b, 0, none⟩)]] w fun e w' => e = .returned (.int .i64 (plI L key)) ∧ Below w.heap.size w w' := by
  have HI := Lib.hid hI
  have Hc := Lib.hid hc
  obtain ⟨n, hln⟩ : ∃ n, L.length = n := ⟨_, rfl⟩
  have Hln := Lib.hid hln
  rw [hln] at hn ⊢
  clear hI hc hln
  go_enter Try.func36, Try.ntmps36
  go_wp2
  go_loopw [8] (fun i wr => ∃ k : Nat, k ≤ n ∧ i = .int .i64 k ∧ Below w.heap.size w wr ∧ ∀ (j : Nat) (y : Ins), j < k → L[j]? = some y → y.nm ≠ key) (fun i _ => n - (intOf i).toNat)
  case atStart => exact ⟨0, by omega, rfl, by (repeat' (first | with_reducible exact Below.refl _ _ | with_reducible assumption | with_reducible refine Below.drew ?_ | with_reducible refine below_drewN' ?_ _ | with_reducible refine Below.alloc ?_ ?_ _ | with_reducible refine Below.setCell ?_ ?_ _ | with_reducible refine below_step (by assumption) ?_ ?_ | omega | (simp; done) | (simp; omega))), fun j y hj => by omega⟩
  case round =>
    obtain ⟨k, hk, rfl, hB, hE⟩ := hrel
    obtain ⟨hcB, hfB⟩ := bcell hB
    have HE := Lib.hid hE
    have hzB := hB.size
    clear hE
    by_cases hlt : k < n
    · obtain ⟨x, hx⟩ := mem_at (l := L) (k := k) (by rw [Hln.out]; exact hlt)
      obtain ⟨b2, off, rfl, hb2, hc2⟩ := HI.out (by rw [Hln.out]; omega)
      have hbw2 : b2 < wr.heap.size := by omega
      have hbw : b < wr.heap.size := by omega
      obtain ⟨c0, c1, c2, c3, c4⟩ := irow_cells (hc2 k x hx)
      have Hx := Lib.hid hx
      have HF := Lib.hid (fun V (hV : Below wr.heap.size wr V) => pfc_any x key b V (Nat.lt_of_lt_of_le hbw hV.size) ((hV.cell (p := ⟨b, 0, none⟩) hbw).trans ((hcB b 0 hb).trans Hc.out)))
      clear hc2 hx
      by_cases he : x.nm = key
      · have hv : nmB x.nm key = true := decide_eq_true he
        have Hr := Lib.hid (show plI L key = k by unfold plI; rw [fndI_at Hx.out he HE.out])
        rw [hv] at HF
        clear he hv
        go_wp2_with (go_at_call 37; (with_reducible refine (HF.out _ (by (repeat' (first | with_reducible exact Below.refl _ _ | with_reducible assumption | with_reducible refine Below.drew ?_ | with_reducible refine below_drewN' ?_ _ | with_reducible refine Below.alloc ?_ ?_ _ | with_reducible refine Below.setCell ?_ ?_ _ | with_reducible refine below_step (by assumption) ?_ ?_ | omega | (simp; done) | (simp; omega))))).mono ?_); rintro e w1 ⟨rfl, hb1⟩)
        go_ret
        exact ⟨by rw [Hr.out]; rfl, by (repeat' (first | with_reducible exact Below.refl _ _ | with_reducible assumption | with_reducible refine Below.drew ?_ | with_reducible refine below_drewN' ?_ _ | with_reducible refine Below.alloc ?_ ?_ _ | with_reducible refine Below.setCell ?_ ?_ _ | with_reducible refine below_step (by assumption) ?_ ?_ | omega | (simp; done) | (simp; omega)))⟩
      · have hv : nmB x.nm key = false := decide_eq_false he
        have He := Lib.hid (show ∀ (j : Nat) (y : Ins), j < k + 1 → L[j]? = some y → y.nm ≠ key from fun j y hj hy => by
          by_cases e : j < k
          · exact HE.out j y e hy
          · obtain rfl : j = k := by omega
            rw [Hx.out] at hy
            obtain rfl := Option.some.inj hy
            exact he)
        rw [hv] at HF
        clear he hv
        go_wp2_with (go_at_call 37; (with_reducible refine (HF.out _ (by (repeat' (first | with_reducible exact Below.refl _ _ | with_reducible assumption | with_reducible refine Below.drew ?_ | with_reducible refine below_drewN' ?_ _ | with_reducible refine Below.alloc ?_ ?_ _ | with_reducible refine Below.setCell ?_ ?_ _ | with_reducible refine below_step (by assumption) ?_ ?_ | omega | (simp; done) | (simp; omega))))).mono ?_); rintro e w1 ⟨rfl, hb1⟩)
        go_roundw
        case rel => exact ⟨k + 1, by omega, by go_num, by (repeat' (first | with_reducible exact Below.refl _ _ | with_reducible assumption | with_reducible refine Below.drew ?_ | with_reducible refine below_drewN' ?_ _ | with_reducible refine Below.alloc ?_ ?_ _ | with_reducible refine Below.setCell ?_ ?_ _ | with_reducible refine below_step (by assumption) ?_ ?_ | omega | (simp; done) | (simp; omega))), He.out⟩
        case measure => simp [intOf]; omega
    · obtain rfl : k = n := by omega
      have Hr := Lib.hid (show plI L key = -1 by unfold plI; rw [fndI_none (s := key) (L := L) fun j y hy => HE.out j y (by have := lt_at hy; rw [Hln.out] at this; exact this) hy])
      go_wp2
      go_ret
      exact ⟨by rw [Hr.out]; rfl, by (repeat' (first | with_reducible exact Below.refl _ _ | with_reducible assumption | with_reducible refine Below.drew ?_ | with_reducible refine below_drewN' ?_ _ | with_reducible refine Below.alloc ?_ ?_ _ | with_reducible refine Below.setCell ?_ ?_ _ | with_reducible refine below_step (by assumption) ?_ ?_ | omega | (simp; done) | (simp; omega)))⟩

set_option maxRecDepth 100000 in
set_option maxHeartbeats 2000000 in
theorem pfind_none (s : St) (key : ByteArray) (w : World) (hI : StIn w s) (hL : s.L.length ≤ 1000000) (hf : fndI s.L key = none) :
    Calls Try.prog 19 #[.agg #[.slice s.ga s.C.length s.gk, .slice s.ta s.T.length s.tk, .slice s.ia s.L.length s.ik, .int .i64 s.c0, .int .i64 s.c1, .int .i64 s.c2, .slice s.ra s.R.length s.rk, .int .i64 s.un, .int .i64 s.sh], .string key] w fun e w' => e = .returned (.tuple #[.int .i64 0, .int .i64 0, .bool false]) ∧ Below w.heap.size w w' := by
  have HX := Lib.hid (fun (b : Nat) V (hV : Below w.heap.size w V) (hb : b < V.heap.size) (hc : V.cell? ⟨b, 0, none⟩ = some (.string key)) => pidxf_any s.ia s.L s.ik key b V (hI.i.mono hV) hL hb hc)
  have hp : plI s.L key = -1 := by unfold plI; rw [hf]
  rw [hp] at HX
  clear hI hf hp hL
  obtain ⟨ga, C, gk, ta, T, tk, ia, L, ik, z0, z1, z2, ra, R, rk, un, sh⟩ := s
  dsimp only at HX ⊢
  obtain ⟨n, hn⟩ : ∃ n, L.length = n := ⟨_, rfl⟩
  rw [hn] at HX ⊢
  clear hn
  go_enter Try.func19, Try.ntmps19
  go_wp2_with (go_at_call 36; (with_reducible refine (HX.out (w.heap.size + 1) _ (by (repeat' (first | with_reducible exact Below.refl _ _ | with_reducible assumption | with_reducible refine Below.drew ?_ | with_reducible refine below_drewN' ?_ _ | with_reducible refine Below.alloc ?_ ?_ _ | with_reducible refine Below.setCell ?_ ?_ _ | with_reducible refine below_step (by assumption) ?_ ?_ | omega | (simp; done) | (simp; omega)))) (by simp) (by simp [go_sem])).mono ?_); rintro e w1 ⟨rfl, hb1⟩; have hz1 := hb1.size; (try simp at hz1))
  refine bodyPost_ret (v := .tuple #[.int .i64 0, .int .i64 0, .bool false]) (by simp [results, Try.results19, go_sem]) rfl ⟨rfl, by (repeat' (first | with_reducible exact Below.refl _ _ | with_reducible assumption | with_reducible refine Below.drew ?_ | with_reducible refine below_drewN' ?_ _ | with_reducible refine Below.alloc ?_ ?_ _ | with_reducible refine Below.setCell ?_ ?_ _ | with_reducible refine below_step (by assumption) ?_ ?_ | omega | (simp; done) | (simp; omega)))⟩

set_option maxRecDepth 100000 in
set_option maxHeartbeats 4000000 in
theorem pfind_some (s : St) (key : ByteArray) (k : Nat) (x : Ins) (q : Int) (w : World) (hI : StIn w s) (hL : s.L.length ≤ 1000000) (hf : fndI s.L key = some k) (hx : s.L[k]? = some x) (hq : findA s.C x.gp 0 = q) (hC : s.C.length ≤ 1000) :
    Calls Try.prog 19 #[.agg #[.slice s.ga s.C.length s.gk, .slice s.ta s.T.length s.tk, .slice s.ia s.L.length s.ik, .int .i64 s.c0, .int .i64 s.c1, .int .i64 s.c2, .slice s.ra s.R.length s.rk, .int .i64 s.un, .int .i64 s.sh], .string key] w fun e w' => e = .returned (.tuple #[.int .i64 k, .int .i64 q, .bool (decide (0 ≤ q))]) ∧ Below w.heap.size w w' := by
  have HX := Lib.hid (fun (b : Nat) V (hV : Below w.heap.size w V) (hb : b < V.heap.size) (hc : V.cell? ⟨b, 0, none⟩ = some (.string key)) => pidxf_any s.ia s.L s.ik key b V (hI.i.mono hV) hL hb hc)
  have HF := Lib.hid (fun V (hV : Below w.heap.size w V) => find_any s.ga s.C s.gk x.gp V (hI.g.mono hV) (by unfold maxLen; omega))
  have hp : plI s.L key = k := by unfold plI; rw [hf]
  have hlt := lt_at hx
  obtain ⟨b, off, hb, hbw, hc⟩ := hI.i (by omega)
  obtain ⟨d0, d1, -⟩ := irow_cells (hc k x hx)
  rw [hp] at HX
  rw [hq] at HF
  clear hI hf hp hL hc hx hq hC
  obtain ⟨ga, C, gk, ta, T, tk, ia, L, ik, z0, z1, z2, ra, R, rk, un, sh⟩ := s
  dsimp only at HX HF hlt hb ⊢
  subst hb
  obtain ⟨n, hn⟩ : ∃ n, L.length = n := ⟨_, rfl⟩
  obtain ⟨m, hm⟩ : ∃ m, C.length = m := ⟨_, rfl⟩
  rw [hn] at HX hlt ⊢
  rw [hm] at HF ⊢
  clear hn hm
  have k1 : decide ((k : Int) < 0) = false := decide_eq_false (by omega)
  obtain ⟨gp, hgp⟩ : ∃ gp, x.gp = gp := ⟨_, rfl⟩
  rw [hgp] at HF d1
  obtain ⟨kd, hkd⟩ : ∃ kd, decide (0 ≤ q) = kd := ⟨_, rfl⟩
  rw [hkd]
  clear hgp
  go_enter Try.func19, Try.ntmps19
  go_wp2_with (go_at_call 36; (with_reducible refine (HX.out (w.heap.size + 1) _ (by (repeat' (first | with_reducible exact Below.refl _ _ | with_reducible assumption | with_reducible refine Below.drew ?_ | with_reducible refine below_drewN' ?_ _ | with_reducible refine Below.alloc ?_ ?_ _ | with_reducible refine Below.setCell ?_ ?_ _ | with_reducible refine below_step (by assumption) ?_ ?_ | omega | (simp; done) | (simp; omega)))) (by simp) (by simp [go_sem])).mono ?_); rintro e w1 ⟨rfl, hb1⟩; have HB1 := Lib.hid (show Below w.heap.size w w1 by (repeat' (first | with_reducible exact Below.refl _ _ | with_reducible assumption | with_reducible refine Below.drew ?_ | with_reducible refine below_drewN' ?_ _ | with_reducible refine Below.alloc ?_ ?_ _ | with_reducible refine Below.setCell ?_ ?_ _ | with_reducible refine below_step (by assumption) ?_ ?_ | omega | (simp; done) | (simp; omega)))); obtain ⟨hc1, hf1⟩ := bcell hb1; have hz1 := hb1.size; (try simp at hz1); have hy1 : w.heap.size < w1.heap.size := (by omega); have hx1 : b < w1.heap.size := (by omega); have e1 := (HB1.out.cell (p := ⟨b, off + k * 5 + 1, none⟩) hbw).trans d1)
  have hcH := held_cell
  refine region_below (by kernel_rfl) (by kernel_rfl) ?_
  repeat
    ((with_reducible refine wpQuiet_step (fun K hK => ?_))
     go_simp
     first
       | ((with_reducible refine hK _ ?_); clear hK K)
       | (apply Exists.intro
          (with_reducible refine ⟨fun n => ?_, hK _ ?_⟩)
          ((go_at_call 18; exact held_calls (HF.out _ (HB1.out.trans (Below.mono n.below HB1.out.size)))))
          clear hK K))
  with_reducible refine wpQuiet_nil ?_
  intro w4 hw2
  clear hcH
  obtain ⟨⟨_, hb4⟩, rfl⟩ := hw2
  (try dsimp only)
  obtain ⟨hc4, hf4⟩ := bcell hb4
  have hz4 := hb4.size
  (try simp at hz4)
  have hy4 : w.heap.size < w4.heap.size := by omega
  go_wp2
  refine bodyPost_ret (v := .tuple #[.int .i64 k, .int .i64 q, .bool kd]) (by simp [results, Try.results19, go_sem, hkd]) rfl ⟨rfl, HB1.out.trans (hb4.mono HB1.out.size)⟩
end Go.Proofs.Ytmkdfcggjlhcpaa
