/-
  The contract of permit.State.whyGroup.
-/
import Derived.Test.YtmkdfcggjlhcpaaGreatDoorPe3x
namespace Go.Proofs.YtmkdfcggjlhcpaaGreatDoor
open Go.RowKit
set_option linter.unusedVariables false
set_option linter.unusedSimpArgs false
theorem at_rel {P : Program} {ops : Array Oper} {a : Act} {w : World} {R : Value → World → Prop} {d0 : Option Tmp} {ty : TypeId} {x : Operand} {t : TypeId} {p : String} {af : Array Edge} {g : Option (Nat × Bool)}
    (h : relAt P ops { dst := d0, op := .load ty x, type := t, pos := p, after := af, guard := g } a w R) : relAt P ops { dst := d0, op := .load ty x, type := t, pos := p, after := af, guard := g } a w R := h
theorem plit_yes {a : ByteArray} {l : List UInt8} (h : a = ⟨l.toArray⟩) : (a.toList == l) = true := by
  rw [h, ByteArray.toList_eq]
  exact beq_iff_eq.2 rfl
theorem plit_no {a : ByteArray} {l : List UInt8} (h : ¬ a = ⟨l.toArray⟩) : (a.toList == l) = false := by
  rw [beq_eq_false_iff_ne]
  intro e
  rw [ByteArray.toList_eq] at e
  exact h (ByteArray.ext (by rw [← e]))
def bX (s : St) (nm : ByteArray) (n : Int) : Bool := match fndK s.G nm with
  | none => true
  | some j => bS s j n
theorem say_why {P : Program} {f : FuncId} {args : Array Value} {w : World} {s : St} {what nm : ByteArray} {n z : Int} (hz : whyG s what nm n (bX s nm n) = z)
    (h : Calls P f args w fun e w' => e = .returned (.int .i64 z) ∧ Below w.heap.size w w') :
    Calls P f args w fun e w' => (∃ b, e = .returned (.int .i64 (whyG s what nm n b)) ∧ b = bX s nm n) ∧ Below w.heap.size w w' :=
  h.mono fun e w' hh => ⟨⟨bX s nm n, by rw [hz]; exact hh.1, rfl⟩, hh.2⟩
set_option maxRecDepth 100000 in
set_option maxHeartbeats 8000000 in
theorem whyg_any (s : St) (what nm : ByteArray) (n : Int) (w : World) (hI : StIn w s) (hO : StOk s) (hn0 : -9223372036854775808 ≤ n) (hn1 : n ≤ 9223372036854775807) :
    Calls Tryz.prog 46 #[.agg #[.slice s.ga s.C.length s.gk, .slice s.ta s.T.length s.tk, .slice s.ia s.L.length s.ik, .int .i64 s.c0, .int .i64 s.c1, .int .i64 s.c2, .slice s.ra s.R.length s.rk, .int .i64 s.un, .int .i64 s.sh], .agg #[.string what, .string nm, .int .i64 n]] w fun e w' => (∃ b, e = .returned (.int .i64 (whyG s what nm n b)) ∧ b = bX s nm n) ∧ Below w.heap.size w w' := by
  have hg16 := hO.g16
  have HF := Lib.hid (fun V (hV : Below w.heap.size w V) => find_any s.ga s.C s.gk nm V (hI.g.mono hV) (by unfold maxLen; omega))
  have HZ0 := Lib.hid (fun (o : Obj) => World.size_alloc w o)
  cases hf : fndK s.G nm with
  | none =>
    rw [findA_none hf] at HF
    refine say_why (z := 16) (by unfold whyG; rw [hf]) ?_
    clear hI hO hf
    obtain ⟨ga, C, gk, ta, T, tk, ia, L, ik, z0, z1, z2, ra, R, rk, un, sh⟩ := s
    dsimp only at *
    obtain ⟨N, hN⟩ : ∃ N, C.length = N := ⟨_, rfl⟩
    obtain ⟨M, hM⟩ : ∃ M, T.length = M := ⟨_, rfl⟩
    obtain ⟨m, hm⟩ : ∃ m, L.length = m := ⟨_, rfl⟩
    obtain ⟨Nr, hNr⟩ : ∃ Nr, R.length = Nr := ⟨_, rfl⟩
    simp only [hN, hM, hm, hNr] at *
    clear hN hM hm hNr
    go_enter Tryz.func46, Tryz.ntmps46
    go_wp2_with (go_at_call 38; (with_reducible refine (HF.out _ (by (repeat' (first | with_reducible exact Below.refl _ _ | with_reducible assumption | with_reducible refine Below.drew ?_ | with_reducible refine below_drewN' ?_ _ | with_reducible refine Below.alloc ?_ ?_ _ | with_reducible refine Below.setCell ?_ ?_ _ | with_reducible refine below_step (by assumption) ?_ ?_ | omega | (simp; done) | (simp; omega))))).mono ?_); rintro e w1 ⟨rfl, hb1⟩; have HB1 := Lib.hid (show Below w.heap.size w w1 by (repeat' (first | with_reducible exact Below.refl _ _ | with_reducible assumption | with_reducible refine Below.drew ?_ | with_reducible refine below_drewN' ?_ _ | with_reducible refine Below.alloc ?_ ?_ _ | with_reducible refine Below.setCell ?_ ?_ _ | with_reducible refine below_step (by assumption) ?_ ?_ | omega | (simp; done) | (simp; omega)))); have HS1 := Lib.hid (((Blk.new w 52 [.slice _ N gk, .slice ta M tk, .slice _ m ik, .int .i64 z0, .int .i64 z1, .int .i64 z2, .slice ra Nr rk, .int .i64 un, .int .i64 sh]).alloc _).below hb1); have HC1 := Lib.hid ((Blk.new (w.alloc _) 59 [.string what, .string nm, .int .i64 n]).below hb1); rw [HZ0.out] at HC1; obtain ⟨hc1, hf1⟩ := bcell hb1; have hz1 := hb1.size; (try simp at hz1); have hy1 : w.heap.size < w1.heap.size := (by omega); have hx1 : w.heap.size + 1 < w1.heap.size := (by omega))
    go_ret
    exact ⟨rfl, HB1.out⟩
  | some j =>
    rw [findA_some hf] at HF
    obtain ⟨g, hg⟩ : ∃ g, s.C[j]? = some g := by
      obtain ⟨g0, hg0, -⟩ := fndK_lt hf
      unfold St.G at hg0
      rw [List.getElem?_map] at hg0
      cases h : s.C[j]? with
      | none => rw [h] at hg0; cases hg0
      | some g => exact ⟨g, rfl⟩
    have hgn : g.nm = nm := by
      obtain ⟨g0, hg0, h1⟩ := fndK_lt hf
      unfold St.G at hg0
      rw [List.getElem?_map, hg] at hg0
      obtain rfl := Option.some.inj hg0
      exact h1
    have hjn := lt_at hg
    have hlt := hO.lt
    obtain ⟨t, ht⟩ := mem_at (l := s.T) (k := j) (by omega)
    have hR : ∀ b, whyG s what nm n b = if n < 1 then 1 else if what = sFix then (if t - n < g.mn ∨ t - n < (sizeI s.L nm : Int) then 20 else 0)
          else if s.sh < s.un then 22 else if s.R.any (strB nm) = true then 25 else if g.mx - t < n then 21 else if what = sUp ∧ b = false then 24 else 0 := fun b => by
      unfold whyG
      rw [hf]
      dsimp only
      rw [hg, ht]
    have HR := Lib.hid hR
    have hbx : bX s nm n = bS s j n := by unfold bX; rw [hf]
    have Hbx := Lib.hid hbx
    clear hbx
    obtain ⟨gb0, gb1, -⟩ := hO.gb g (List.mem_of_getElem? hg)
    obtain ⟨tb0, tb1⟩ := hO.tb j g t hg ht
    have hT1 : s.T.length ≤ 16 := by omega
    clear hR hf hlt
    by_cases h1 : n < 1
    · refine say_why (z := 1) (by rw [HR.out, if_pos h1]) ?_
      have k1 : decide (n < 1) = true := decide_eq_true h1
      clear hI hO HR Hbx hg ht hgn
      obtain ⟨ga, C, gk, ta, T, tk, ia, L, ik, z0, z1, z2, ra, R, rk, un, sh⟩ := s
      dsimp only at *
      obtain ⟨N, hN⟩ : ∃ N, C.length = N := ⟨_, rfl⟩
      obtain ⟨M, hM⟩ : ∃ M, T.length = M := ⟨_, rfl⟩
      obtain ⟨m, hm⟩ : ∃ m, L.length = m := ⟨_, rfl⟩
      obtain ⟨Nr, hNr⟩ : ∃ Nr, R.length = Nr := ⟨_, rfl⟩
      simp only [hN, hM, hm, hNr] at *
      clear hN hM hm hNr
      go_enter Tryz.func46, Tryz.ntmps46
      go_wp2_with (go_at_call 38; (with_reducible refine (HF.out _ (by (repeat' (first | with_reducible exact Below.refl _ _ | with_reducible assumption | with_reducible refine Below.drew ?_ | with_reducible refine below_drewN' ?_ _ | with_reducible refine Below.alloc ?_ ?_ _ | with_reducible refine Below.setCell ?_ ?_ _ | with_reducible refine below_step (by assumption) ?_ ?_ | omega | (simp; done) | (simp; omega))))).mono ?_); rintro e w1 ⟨rfl, hb1⟩; have HB1 := Lib.hid (show Below w.heap.size w w1 by (repeat' (first | with_reducible exact Below.refl _ _ | with_reducible assumption | with_reducible refine Below.drew ?_ | with_reducible refine below_drewN' ?_ _ | with_reducible refine Below.alloc ?_ ?_ _ | with_reducible refine Below.setCell ?_ ?_ _ | with_reducible refine below_step (by assumption) ?_ ?_ | omega | (simp; done) | (simp; omega)))); have HS1 := Lib.hid (((Blk.new w 52 [.slice _ N gk, .slice ta M tk, .slice _ m ik, .int .i64 z0, .int .i64 z1, .int .i64 z2, .slice ra Nr rk, .int .i64 un, .int .i64 sh]).alloc _).below hb1); have HC1 := Lib.hid ((Blk.new (w.alloc _) 59 [.string what, .string nm, .int .i64 n]).below hb1); rw [HZ0.out] at HC1; obtain ⟨hc1, hf1⟩ := bcell hb1; have hz1 := hb1.size; (try simp at hz1); have hy1 : w.heap.size < w1.heap.size := (by omega); have hx1 : w.heap.size + 1 < w1.heap.size := (by omega))
      go_ret
      exact ⟨rfl, HB1.out⟩
    have k1 : decide (n < 1) = false := decide_eq_false h1
    by_cases h2 : what = sFix
    · have HX := Lib.hid (fun V (hV : Below w.heap.size w V) => whyfix_any s j g t n V (hI.mono hV) hg ht (by omega) (by omega) (by have := hO.lb; omega) (by omega) (by omega) gb0 (by omega) (by omega) hn1)
      rw [hgn] at HX
      obtain ⟨z, hz⟩ : ∃ z : Int, (if t - n < g.mn ∨ t - n < (sizeI s.L nm : Int) then 20 else 0) = z := ⟨_, rfl⟩
      rw [hz] at HX
      refine say_why (z := z) (by rw [HR.out, if_neg h1, if_pos h2, hz]) ?_
      have k2 : (what.toList == [102, 105, 120]) = true := plit_yes h2
      clear hI hO HR Hbx hg ht hgn hz h1 h2
      obtain ⟨ga, C, gk, ta, T, tk, ia, L, ik, z0, z1, z2, ra, R, rk, un, sh⟩ := s
      dsimp only at *
      obtain ⟨N, hN⟩ : ∃ N, C.length = N := ⟨_, rfl⟩
      obtain ⟨M, hM⟩ : ∃ M, T.length = M := ⟨_, rfl⟩
      obtain ⟨m, hm⟩ : ∃ m, L.length = m := ⟨_, rfl⟩
      obtain ⟨Nr, hNr⟩ : ∃ Nr, R.length = Nr := ⟨_, rfl⟩
      simp only [hN, hM, hm, hNr] at *
      clear hN hM hm hNr
      go_enter Tryz.func46, Tryz.ntmps46
      go_wp2_with (first
        | (go_at_call 38; (with_reducible refine (HF.out _ (by (repeat' (first | with_reducible exact Below.refl _ _ | with_reducible assumption | with_reducible refine Below.drew ?_ | with_reducible refine below_drewN' ?_ _ | with_reducible refine Below.alloc ?_ ?_ _ | with_reducible refine Below.setCell ?_ ?_ _ | with_reducible refine below_step (by assumption) ?_ ?_ | omega | (simp; done) | (simp; omega))))).mono ?_); rintro e w1 ⟨rfl, hb1⟩; have HB1 := Lib.hid (show Below w.heap.size w w1 by (repeat' (first | with_reducible exact Below.refl _ _ | with_reducible assumption | with_reducible refine Below.drew ?_ | with_reducible refine below_drewN' ?_ _ | with_reducible refine Below.alloc ?_ ?_ _ | with_reducible refine Below.setCell ?_ ?_ _ | with_reducible refine below_step (by assumption) ?_ ?_ | omega | (simp; done) | (simp; omega)))); have HS1 := Lib.hid (((Blk.new w 52 [.slice _ N gk, .slice ta M tk, .slice _ m ik, .int .i64 z0, .int .i64 z1, .int .i64 z2, .slice ra Nr rk, .int .i64 un, .int .i64 sh]).alloc _).below hb1); have HC1 := Lib.hid ((Blk.new (w.alloc _) 59 [.string what, .string nm, .int .i64 n]).below hb1); rw [HZ0.out] at HC1; obtain ⟨hc1, hf1⟩ := bcell hb1; have hz1 := hb1.size; (try simp at hz1); have hy1 : w.heap.size < w1.heap.size := (by omega); have hx1 : w.heap.size + 1 < w1.heap.size := (by omega))
        | (go_at_call 67; (with_reducible refine (HX.out _ HB1.out).mono ?_); rintro e w2 ⟨rfl, hb2⟩; have HB2 := Lib.hid (HB1.out.trans (hb2.mono HB1.out.size))))
      go_ret
      exact ⟨rfl, HB2.out⟩
    have k2 : (what.toList == [102, 105, 120]) = false := plit_no h2
    by_cases h3 : s.sh < s.un
    · refine say_why (z := 22) (by rw [HR.out, if_neg h1, if_neg h2, if_pos h3]) ?_
      have k3 : decide (s.sh < s.un) = true := decide_eq_true h3
      clear hI hO HR Hbx hg ht hgn h1 h2 h3
      obtain ⟨ga, C, gk, ta, T, tk, ia, L, ik, z0, z1, z2, ra, R, rk, un, sh⟩ := s
      dsimp only at *
      obtain ⟨N, hN⟩ : ∃ N, C.length = N := ⟨_, rfl⟩
      obtain ⟨M, hM⟩ : ∃ M, T.length = M := ⟨_, rfl⟩
      obtain ⟨m, hm⟩ : ∃ m, L.length = m := ⟨_, rfl⟩
      obtain ⟨Nr, hNr⟩ : ∃ Nr, R.length = Nr := ⟨_, rfl⟩
      simp only [hN, hM, hm, hNr] at *
      clear hN hM hm hNr
      go_enter Tryz.func46, Tryz.ntmps46
      go_wp2_with (go_at_call 38; (with_reducible refine (HF.out _ (by (repeat' (first | with_reducible exact Below.refl _ _ | with_reducible assumption | with_reducible refine Below.drew ?_ | with_reducible refine below_drewN' ?_ _ | with_reducible refine Below.alloc ?_ ?_ _ | with_reducible refine Below.setCell ?_ ?_ _ | with_reducible refine below_step (by assumption) ?_ ?_ | omega | (simp; done) | (simp; omega))))).mono ?_); rintro e w1 ⟨rfl, hb1⟩; have HB1 := Lib.hid (show Below w.heap.size w w1 by (repeat' (first | with_reducible exact Below.refl _ _ | with_reducible assumption | with_reducible refine Below.drew ?_ | with_reducible refine below_drewN' ?_ _ | with_reducible refine Below.alloc ?_ ?_ _ | with_reducible refine Below.setCell ?_ ?_ _ | with_reducible refine below_step (by assumption) ?_ ?_ | omega | (simp; done) | (simp; omega)))); have HS1 := Lib.hid (((Blk.new w 52 [.slice _ N gk, .slice ta M tk, .slice _ m ik, .int .i64 z0, .int .i64 z1, .int .i64 z2, .slice ra Nr rk, .int .i64 un, .int .i64 sh]).alloc _).below hb1); have HC1 := Lib.hid ((Blk.new (w.alloc _) 59 [.string what, .string nm, .int .i64 n]).below hb1); rw [HZ0.out] at HC1; obtain ⟨hc1, hf1⟩ := bcell hb1; have hz1 := hb1.size; (try simp at hz1); have hy1 : w.heap.size < w1.heap.size := (by omega); have hx1 : w.heap.size + 1 < w1.heap.size := (by omega))
      go_ret
      exact ⟨rfl, HB1.out⟩
    have k3 : decide (s.sh < s.un) = false := decide_eq_false h3
    have HCt := Lib.hid (fun V (hV : Below w.heap.size w V) => containss_any s.ra s.rk s.R nm V (hI.r.mono hV) (by have := hO.rb; omega))
    by_cases h4 : s.R.any (strB nm) = true
    · refine say_why (z := 25) (by rw [HR.out, if_neg h1, if_neg h2, if_neg h3, if_pos h4]) ?_
      rw [h4] at HCt
      clear hI hO HR Hbx hg ht hgn h1 h2 h3 h4
      obtain ⟨ga, C, gk, ta, T, tk, ia, L, ik, z0, z1, z2, ra, R, rk, un, sh⟩ := s
      dsimp only at *
      obtain ⟨N, hN⟩ : ∃ N, C.length = N := ⟨_, rfl⟩
      obtain ⟨M, hM⟩ : ∃ M, T.length = M := ⟨_, rfl⟩
      obtain ⟨m, hm⟩ : ∃ m, L.length = m := ⟨_, rfl⟩
      obtain ⟨Nr, hNr⟩ : ∃ Nr, R.length = Nr := ⟨_, rfl⟩
      simp only [hN, hM, hm, hNr] at *
      clear hN hM hm hNr
      go_enter Tryz.func46, Tryz.ntmps46
      go_wp2_with (first
        | (go_at_call 38; (with_reducible refine (HF.out _ (by (repeat' (first | with_reducible exact Below.refl _ _ | with_reducible assumption | with_reducible refine Below.drew ?_ | with_reducible refine below_drewN' ?_ _ | with_reducible refine Below.alloc ?_ ?_ _ | with_reducible refine Below.setCell ?_ ?_ _ | with_reducible refine below_step (by assumption) ?_ ?_ | omega | (simp; done) | (simp; omega))))).mono ?_); rintro e w1 ⟨rfl, hb1⟩; have HB1 := Lib.hid (show Below w.heap.size w w1 by (repeat' (first | with_reducible exact Below.refl _ _ | with_reducible assumption | with_reducible refine Below.drew ?_ | with_reducible refine below_drewN' ?_ _ | with_reducible refine Below.alloc ?_ ?_ _ | with_reducible refine Below.setCell ?_ ?_ _ | with_reducible refine below_step (by assumption) ?_ ?_ | omega | (simp; done) | (simp; omega)))); have HS1 := Lib.hid (((Blk.new w 52 [.slice _ N gk, .slice ta M tk, .slice _ m ik, .int .i64 z0, .int .i64 z1, .int .i64 z2, .slice ra Nr rk, .int .i64 un, .int .i64 sh]).alloc _).below hb1); have HC1 := Lib.hid ((Blk.new (w.alloc _) 59 [.string what, .string nm, .int .i64 n]).below hb1); rw [HZ0.out] at HC1; obtain ⟨hc1, hf1⟩ := bcell hb1; have hz1 := hb1.size; (try simp at hz1); have hy1 : w.heap.size < w1.heap.size := (by omega); have hx1 : w.heap.size + 1 < w1.heap.size := (by omega))
        | (go_at_call 68; (with_reducible refine (HCt.out _ HB1.out).mono ?_); rintro e w2 ⟨rfl, hb2⟩; have HB2 := Lib.hid (HB1.out.trans (hb2.mono HB1.out.size)); have HS2 := Lib.hid (HS1.out.below hb2); have HC2 := Lib.hid (HC1.out.below hb2); obtain ⟨hc2, hf2⟩ := bcell hb2; have hz2 := hb2.size; have hy2 : w.heap.size < w2.heap.size := (by omega); have hx2 : w.heap.size + 1 < w2.heap.size := (by omega)))
      go_ret
      exact ⟨rfl, HB2.out⟩
    have h40 : s.R.any (strB nm) = false := by simpa using h4
    rw [h40] at HCt
    have HTg := Lib.hid (fun V (hV : Below w.heap.size w V) => ptarget_any s j t V (hI.mono hV) ht (by omega))
    have HEx := Lib.hid (fun V => exc_any t n g.mx V (by omega) (by omega) (by omega) hn1 gb1)
    have HWn := Lib.hid (fun V (hV : Below w.heap.size w V) => pwithin_any s j g n V (hI.mono hV) hO hg (by omega) hn1)
    obtain ⟨b2, o2, hb2, hbw2, hc2⟩ := hI.g (by omega)
    obtain ⟨-, -, x2, -⟩ := grow_cells (hc2 j g hg)
    obtain ⟨mx, hmx⟩ : ∃ mx, g.mx = mx := ⟨_, rfl⟩
    rw [hmx] at HEx x2 HR
    by_cases h5 : mx - t < n
    · refine say_why (z := 21) (by rw [HR.out, if_neg h1, if_neg h2, if_neg h3, if_neg h4, if_pos h5]) ?_
      rw [decide_eq_true h5] at HEx
      clear hI hO HR Hbx hg ht hgn h1 h2 h3 h4 h5 h40 hc2 HWn hmx gb0 gb1 tb0 tb1
      obtain ⟨ga, C, gk, ta, T, tk, ia, L, ik, z0, z1, z2, ra, R, rk, un, sh⟩ := s
      dsimp only at *
      obtain ⟨N, hN⟩ : ∃ N, C.length = N := ⟨_, rfl⟩
      obtain ⟨M, hM⟩ : ∃ M, T.length = M := ⟨_, rfl⟩
      obtain ⟨m, hm⟩ : ∃ m, L.length = m := ⟨_, rfl⟩
      obtain ⟨Nr, hNr⟩ : ∃ Nr, R.length = Nr := ⟨_, rfl⟩
      simp only [hN, hM, hm, hNr] at *
      clear hN hM hm hNr
      subst hb2
      go_enter Tryz.func46, Tryz.ntmps46
      go_wp2_with (first
        | (go_at_call 38; (with_reducible refine (HF.out _ (by (repeat' (first | with_reducible exact Below.refl _ _ | with_reducible assumption | with_reducible refine Below.drew ?_ | with_reducible refine below_drewN' ?_ _ | with_reducible refine Below.alloc ?_ ?_ _ | with_reducible refine Below.setCell ?_ ?_ _ | with_reducible refine below_step (by assumption) ?_ ?_ | omega | (simp; done) | (simp; omega))))).mono ?_); rintro e w1 ⟨rfl, hb1⟩; have HB1 := Lib.hid (show Below w.heap.size w w1 by (repeat' (first | with_reducible exact Below.refl _ _ | with_reducible assumption | with_reducible refine Below.drew ?_ | with_reducible refine below_drewN' ?_ _ | with_reducible refine Below.alloc ?_ ?_ _ | with_reducible refine Below.setCell ?_ ?_ _ | with_reducible refine below_step (by assumption) ?_ ?_ | omega | (simp; done) | (simp; omega)))); have HS1 := Lib.hid (((Blk.new w 52 [.slice _ N gk, .slice ta M tk, .slice _ m ik, .int .i64 z0, .int .i64 z1, .int .i64 z2, .slice ra Nr rk, .int .i64 un, .int .i64 sh]).alloc _).below hb1); have HC1 := Lib.hid ((Blk.new (w.alloc _) 59 [.string what, .string nm, .int .i64 n]).below hb1); rw [HZ0.out] at HC1; obtain ⟨hc1, hf1⟩ := bcell hb1; have hz1 := hb1.size; (try simp at hz1); have hy1 : w.heap.size < w1.heap.size := (by omega); have hx1 : w.heap.size + 1 < w1.heap.size := (by omega))
        | (go_at_call 68; (with_reducible refine (HCt.out _ HB1.out).mono ?_); rintro e w2 ⟨rfl, hb2⟩; have HB2 := Lib.hid (HB1.out.trans (hb2.mono HB1.out.size)); have HS2 := Lib.hid (HS1.out.below hb2); have HC2 := Lib.hid (HC1.out.below hb2); obtain ⟨hc2, hf2⟩ := bcell hb2; have hz2 := hb2.size; have hy2 : w.heap.size < w2.heap.size := (by omega); have hx2 : w.heap.size + 1 < w2.heap.size := (by omega)))
      have HRs := Lib.hid (show w2.rangeAt w.heap.size 0 [.slice (some ⟨b2, o2, none⟩) N gk, .slice ta M tk, .slice ia m ik, .int .i64 z0, .int .i64 z1, .int .i64 z2, .slice ra Nr rk, .int .i64 un, .int .i64 sh] from HS2.out.range 0 _ rfl)
      have y2 := HC2.out.cell 2
      have y0 := HS2.out.cell 0
      dsimp only [List.getElem?_cons_zero, List.getElem?_cons_succ] at y2 y0
      have e2 := (HB2.out.cell (p := ⟨b2, o2 + j * 15 + 2, none⟩) hbw2).trans x2
      have hv2 : b2 < w2.heap.size := Nat.lt_of_lt_of_le hbw2 HB2.out.size
      clear hc1 hc2 hf1 hf2 x2
      have hcH := held_cell
      refine region_rel (by kernel_rfl) (by kernel_rfl) ?_
      repeat
        ((with_reducible refine relStep (fun K hK => ?_))
         (have HK := Lib.hid hK)
         clear hK
         (apply relInl
          · intro r n hf
            have Hf := Lib.hid hf
            clear hf
            (first
              | (((with_reducible refine at_rel (ty := 52) ?_); refine rel_load rfl w.heap.size 0 rfl [.slice (some ⟨b2, o2, none⟩) N gk, .slice ta M tk, .slice ia m ik, .int .i64 z0, .int .i64 z1, .int .i64 z2, .slice ra Nr rk, .int .i64 un, .int .i64 sh] _ Tryz.underlying52 rfl (by kernel_rfl) (rangeAt_mono HRs.out hy2 n.below) rfl))
              | (unfold relAt
                 go_simp
                 (first | (refine relUpon_val ?_ (Below.refl _ _); exact rfl) | exact rfl | (refine relUpon_enter ?_; (first | (go_at_call 40; (with_reducible refine (HTg.out _ (HB2.out.trans (n.below.mono HB2.out.size))).mono ?_); rintro e w9 ⟨rfl, hb⟩; exact ⟨⟨_, rfl, rfl⟩, hb⟩) | (go_at_call 69; (with_reducible refine (HEx.out _).mono ?_); rintro e w9 ⟨rfl, hb⟩; exact ⟨⟨_, rfl, rfl⟩, hb⟩))))))
          (simp only [Act.put, List.setIfInBounds_toArray, List.set_cons_zero, List.set_cons_succ])
          (with_reducible refine HK.out _ _ ?_)
          clear HK K))
      refine relNil ?_
      intro r9 n9 hx9
      clear hcH
      (try simp only [List.nil_append, List.cons_append, List.mem_cons, List.not_mem_nil, or_false, forall_eq_or_imp, forall_eq, false_implies, implies_true] at hx9)
      obtain ⟨w9, hb9⟩ := n9
      (try dsimp only)
      obtain ⟨hc9, hf9⟩ := bcell hb9
      have hz9 := hb9.size
      (try simp at hz9)
      have HB9 := Lib.hid (HB2.out.trans (hb9.mono HB2.out.size))
      have HS9 := Lib.hid (HS2.out.below hb9)
      have HC9 := Lib.hid (HC2.out.below hb9)
      have s0 := HS9.out.cell 0
      have s1 := HS9.out.cell 1
      have s2 := HS9.out.cell 2
      have s3 := HS9.out.cell 3
      have s4 := HS9.out.cell 4
      have s5 := HS9.out.cell 5
      have s6 := HS9.out.cell 6
      have s7 := HS9.out.cell 7
      have s8 := HS9.out.cell 8
      have r0 := HC9.out.cell 0
      have r1 := HC9.out.cell 1
      have r2 := HC9.out.cell 2
      dsimp only [List.getElem?_cons_zero, List.getElem?_cons_succ] at s0 s1 s2 s3 s4 s5 s6 s7 s8 r0 r1 r2
      clear hc9 hf9
      go_wp2
      go_ret
      exact ⟨rfl, HB9.out⟩
    rw [decide_eq_false h5] at HEx
    by_cases h6 : what = sUp
    · have k6 : (what.toList == [117, 112]) = true := plit_yes h6
      have hv : ∀ b, whyG s what nm n b = if b = false then 24 else 0 := fun b => by
        rw [HR.out, if_neg h1, if_neg h2, if_neg h3, if_neg h4, if_neg h5]
        cases b <;> simp [h6]
      refine say_why (z := if bX s nm n = false then 24 else 0) (hv _) ?_
      obtain ⟨wb, hwb⟩ : ∃ wb, bX s nm n = wb := ⟨_, rfl⟩
      rw [← Hbx.out, hwb] at HWn
      rw [hwb]
      clear hI hO HR hg ht hgn h1 h2 h3 h4 h5 h40 hc2 hmx gb0 gb1 tb0 tb1 h6 hv hwb Hbx
      obtain ⟨ga, C, gk, ta, T, tk, ia, L, ik, z0, z1, z2, ra, R, rk, un, sh⟩ := s
      dsimp only at *
      obtain ⟨N, hN⟩ : ∃ N, C.length = N := ⟨_, rfl⟩
      obtain ⟨M, hM⟩ : ∃ M, T.length = M := ⟨_, rfl⟩
      obtain ⟨m, hm⟩ : ∃ m, L.length = m := ⟨_, rfl⟩
      obtain ⟨Nr, hNr⟩ : ∃ Nr, R.length = Nr := ⟨_, rfl⟩
      simp only [hN, hM, hm, hNr] at *
      clear hN hM hm hNr
      subst hb2
      cases wb
      · rw [if_pos rfl]
        go_enter Tryz.func46, Tryz.ntmps46
        go_wp2_with (first
          | (go_at_call 38; (with_reducible refine (HF.out _ (by (repeat' (first | with_reducible exact Below.refl _ _ | with_reducible assumption | with_reducible refine Below.drew ?_ | with_reducible refine below_drewN' ?_ _ | with_reducible refine Below.alloc ?_ ?_ _ | with_reducible refine Below.setCell ?_ ?_ _ | with_reducible refine below_step (by assumption) ?_ ?_ | omega | (simp; done) | (simp; omega))))).mono ?_); rintro e w1 ⟨rfl, hb1⟩; have HB1 := Lib.hid (show Below w.heap.size w w1 by (repeat' (first | with_reducible exact Below.refl _ _ | with_reducible assumption | with_reducible refine Below.drew ?_ | with_reducible refine below_drewN' ?_ _ | with_reducible refine Below.alloc ?_ ?_ _ | with_reducible refine Below.setCell ?_ ?_ _ | with_reducible refine below_step (by assumption) ?_ ?_ | omega | (simp; done) | (simp; omega)))); have HS1 := Lib.hid (((Blk.new w 52 [.slice _ N gk, .slice ta M tk, .slice _ m ik, .int .i64 z0, .int .i64 z1, .int .i64 z2, .slice ra Nr rk, .int .i64 un, .int .i64 sh]).alloc _).below hb1); have HC1 := Lib.hid ((Blk.new (w.alloc _) 59 [.string what, .string nm, .int .i64 n]).below hb1); rw [HZ0.out] at HC1; obtain ⟨hc1, hf1⟩ := bcell hb1; have hz1 := hb1.size; (try simp at hz1); have hy1 : w.heap.size < w1.heap.size := (by omega); have hx1 : w.heap.size + 1 < w1.heap.size := (by omega))
          | (go_at_call 68; (with_reducible refine (HCt.out _ HB1.out).mono ?_); rintro e w2 ⟨rfl, hb2⟩; have HB2 := Lib.hid (HB1.out.trans (hb2.mono HB1.out.size)); have HS2 := Lib.hid (HS1.out.below hb2); have HC2 := Lib.hid (HC1.out.below hb2); obtain ⟨hc2, hf2⟩ := bcell hb2; have hz2 := hb2.size; have hy2 : w.heap.size < w2.heap.size := (by omega); have hx2 : w.heap.size + 1 < w2.heap.size := (by omega)))
        have HRs := Lib.hid (show w2.rangeAt w.heap.size 0 [.slice (some ⟨b2, o2, none⟩) N gk, .slice ta M tk, .slice ia m ik, .int .i64 z0, .int .i64 z1, .int .i64 z2, .slice ra Nr rk, .int .i64 un, .int .i64 sh] from HS2.out.range 0 _ rfl)
        have y2 := HC2.out.cell 2
        have y0 := HS2.out.cell 0
        dsimp only [List.getElem?_cons_zero, List.getElem?_cons_succ] at y2 y0
        have e2 := (HB2.out.cell (p := ⟨b2, o2 + j * 15 + 2, none⟩) hbw2).trans x2
        have hv2 : b2 < w2.heap.size := Nat.lt_of_lt_of_le hbw2 HB2.out.size
        clear hc1 hc2 hf1 hf2 x2
        have hcH := held_cell
        refine region_rel (by kernel_rfl) (by kernel_rfl) ?_
        repeat
          ((with_reducible refine relStep (fun K hK => ?_))
           (have HK := Lib.hid hK)
           clear hK
           (apply relInl
            · intro r n hf
              have Hf := Lib.hid hf
              clear hf
              (first
                | (((with_reducible refine at_rel (ty := 52) ?_); refine rel_load rfl w.heap.size 0 rfl [.slice (some ⟨b2, o2, none⟩) N gk, .slice ta M tk, .slice ia m ik, .int .i64 z0, .int .i64 z1, .int .i64 z2, .slice ra Nr rk, .int .i64 un, .int .i64 sh] _ Tryz.underlying52 rfl (by kernel_rfl) (rangeAt_mono HRs.out hy2 n.below) rfl))
                | (unfold relAt
                   go_simp
                   (first | (refine relUpon_val ?_ (Below.refl _ _); exact rfl) | exact rfl | (refine relUpon_enter ?_; (first | (go_at_call 40; (with_reducible refine (HTg.out _ (HB2.out.trans (n.below.mono HB2.out.size))).mono ?_); rintro e w9 ⟨rfl, hb⟩; exact ⟨⟨_, rfl, rfl⟩, hb⟩) | (go_at_call 69; (with_reducible refine (HEx.out _).mono ?_); rintro e w9 ⟨rfl, hb⟩; exact ⟨⟨_, rfl, rfl⟩, hb⟩))))))
            (simp only [Act.put, List.setIfInBounds_toArray, List.set_cons_zero, List.set_cons_succ])
            (with_reducible refine HK.out _ _ ?_)
            clear HK K))
        refine relNil ?_
        intro r9 n9 hx9
        clear hcH
        (try simp only [List.nil_append, List.cons_append, List.mem_cons, List.not_mem_nil, or_false, forall_eq_or_imp, forall_eq, false_implies, implies_true] at hx9)
        obtain ⟨w9, hb9⟩ := n9
        (try dsimp only)
        obtain ⟨hc9, hf9⟩ := bcell hb9
        have hz9 := hb9.size
        (try simp at hz9)
        have HB9 := Lib.hid (HB2.out.trans (hb9.mono HB2.out.size))
        have HS9 := Lib.hid (HS2.out.below hb9)
        have HC9 := Lib.hid (HC2.out.below hb9)
        have s0 := HS9.out.cell 0
        have s1 := HS9.out.cell 1
        have s2 := HS9.out.cell 2
        have s3 := HS9.out.cell 3
        have s4 := HS9.out.cell 4
        have s5 := HS9.out.cell 5
        have s6 := HS9.out.cell 6
        have s7 := HS9.out.cell 7
        have s8 := HS9.out.cell 8
        have r0 := HC9.out.cell 0
        have r1 := HC9.out.cell 1
        have r2 := HC9.out.cell 2
        dsimp only [List.getElem?_cons_zero, List.getElem?_cons_succ] at s0 s1 s2 s3 s4 s5 s6 s7 s8 r0 r1 r2
        clear hc9 hf9
        go_wp2_with (go_at_call 70; (with_reducible refine (HWn.out _ HB9.out).mono ?_); rintro e w3 ⟨rfl, hb3⟩; have HB3 := Lib.hid (HB9.out.trans (hb3.mono HB9.out.size)))
        go_ret
        exact ⟨rfl, HB3.out⟩
      · rw [if_neg (by decide)]
        go_enter Tryz.func46, Tryz.ntmps46
        go_wp2_with (first
          | (go_at_call 38; (with_reducible refine (HF.out _ (by (repeat' (first | with_reducible exact Below.refl _ _ | with_reducible assumption | with_reducible refine Below.drew ?_ | with_reducible refine below_drewN' ?_ _ | with_reducible refine Below.alloc ?_ ?_ _ | with_reducible refine Below.setCell ?_ ?_ _ | with_reducible refine below_step (by assumption) ?_ ?_ | omega | (simp; done) | (simp; omega))))).mono ?_); rintro e w1 ⟨rfl, hb1⟩; have HB1 := Lib.hid (show Below w.heap.size w w1 by (repeat' (first | with_reducible exact Below.refl _ _ | with_reducible assumption | with_reducible refine Below.drew ?_ | with_reducible refine below_drewN' ?_ _ | with_reducible refine Below.alloc ?_ ?_ _ | with_reducible refine Below.setCell ?_ ?_ _ | with_reducible refine below_step (by assumption) ?_ ?_ | omega | (simp; done) | (simp; omega)))); have HS1 := Lib.hid (((Blk.new w 52 [.slice _ N gk, .slice ta M tk, .slice _ m ik, .int .i64 z0, .int .i64 z1, .int .i64 z2, .slice ra Nr rk, .int .i64 un, .int .i64 sh]).alloc _).below hb1); have HC1 := Lib.hid ((Blk.new (w.alloc _) 59 [.string what, .string nm, .int .i64 n]).below hb1); rw [HZ0.out] at HC1; obtain ⟨hc1, hf1⟩ := bcell hb1; have hz1 := hb1.size; (try simp at hz1); have hy1 : w.heap.size < w1.heap.size := (by omega); have hx1 : w.heap.size + 1 < w1.heap.size := (by omega))
          | (go_at_call 68; (with_reducible refine (HCt.out _ HB1.out).mono ?_); rintro e w2 ⟨rfl, hb2⟩; have HB2 := Lib.hid (HB1.out.trans (hb2.mono HB1.out.size)); have HS2 := Lib.hid (HS1.out.below hb2); have HC2 := Lib.hid (HC1.out.below hb2); obtain ⟨hc2, hf2⟩ := bcell hb2; have hz2 := hb2.size; have hy2 : w.heap.size < w2.heap.size := (by omega); have hx2 : w.heap.size + 1 < w2.heap.size := (by omega)))
        have HRs := Lib.hid (show w2.rangeAt w.heap.size 0 [.slice (some ⟨b2, o2, none⟩) N gk, .slice ta M tk, .slice ia m ik, .int .i64 z0, .int .i64 z1, .int .i64 z2, .slice ra Nr rk, .int .i64 un, .int .i64 sh] from HS2.out.range 0 _ rfl)
        have y2 := HC2.out.cell 2
        have y0 := HS2.out.cell 0
        dsimp only [List.getElem?_cons_zero, List.getElem?_cons_succ] at y2 y0
        have e2 := (HB2.out.cell (p := ⟨b2, o2 + j * 15 + 2, none⟩) hbw2).trans x2
        have hv2 : b2 < w2.heap.size := Nat.lt_of_lt_of_le hbw2 HB2.out.size
        clear hc1 hc2 hf1 hf2 x2
        have hcH := held_cell
        refine region_rel (by kernel_rfl) (by kernel_rfl) ?_
        repeat
          ((with_reducible refine relStep (fun K hK => ?_))
           (have HK := Lib.hid hK)
           clear hK
           (apply relInl
            · intro r n hf
              have Hf := Lib.hid hf
              clear hf
              (first
                | (((with_reducible refine at_rel (ty := 52) ?_); refine rel_load rfl w.heap.size 0 rfl [.slice (some ⟨b2, o2, none⟩) N gk, .slice ta M tk, .slice ia m ik, .int .i64 z0, .int .i64 z1, .int .i64 z2, .slice ra Nr rk, .int .i64 un, .int .i64 sh] _ Tryz.underlying52 rfl (by kernel_rfl) (rangeAt_mono HRs.out hy2 n.below) rfl))
                | (unfold relAt
                   go_simp
                   (first | (refine relUpon_val ?_ (Below.refl _ _); exact rfl) | exact rfl | (refine relUpon_enter ?_; (first | (go_at_call 40; (with_reducible refine (HTg.out _ (HB2.out.trans (n.below.mono HB2.out.size))).mono ?_); rintro e w9 ⟨rfl, hb⟩; exact ⟨⟨_, rfl, rfl⟩, hb⟩) | (go_at_call 69; (with_reducible refine (HEx.out _).mono ?_); rintro e w9 ⟨rfl, hb⟩; exact ⟨⟨_, rfl, rfl⟩, hb⟩))))))
            (simp only [Act.put, List.setIfInBounds_toArray, List.set_cons_zero, List.set_cons_succ])
            (with_reducible refine HK.out _ _ ?_)
            clear HK K))
        refine relNil ?_
        intro r9 n9 hx9
        clear hcH
        (try simp only [List.nil_append, List.cons_append, List.mem_cons, List.not_mem_nil, or_false, forall_eq_or_imp, forall_eq, false_implies, implies_true] at hx9)
        obtain ⟨w9, hb9⟩ := n9
        (try dsimp only)
        obtain ⟨hc9, hf9⟩ := bcell hb9
        have hz9 := hb9.size
        (try simp at hz9)
        have HB9 := Lib.hid (HB2.out.trans (hb9.mono HB2.out.size))
        have HS9 := Lib.hid (HS2.out.below hb9)
        have HC9 := Lib.hid (HC2.out.below hb9)
        have s0 := HS9.out.cell 0
        have s1 := HS9.out.cell 1
        have s2 := HS9.out.cell 2
        have s3 := HS9.out.cell 3
        have s4 := HS9.out.cell 4
        have s5 := HS9.out.cell 5
        have s6 := HS9.out.cell 6
        have s7 := HS9.out.cell 7
        have s8 := HS9.out.cell 8
        have r0 := HC9.out.cell 0
        have r1 := HC9.out.cell 1
        have r2 := HC9.out.cell 2
        dsimp only [List.getElem?_cons_zero, List.getElem?_cons_succ] at s0 s1 s2 s3 s4 s5 s6 s7 s8 r0 r1 r2
        clear hc9 hf9
        go_wp2_with (go_at_call 70; (with_reducible refine (HWn.out _ HB9.out).mono ?_); rintro e w3 ⟨rfl, hb3⟩; have HB3 := Lib.hid (HB9.out.trans (hb3.mono HB9.out.size)))
        go_ret
        exact ⟨rfl, HB3.out⟩
    · refine say_why (z := 0) (by rw [HR.out, if_neg h1, if_neg h2, if_neg h3, if_neg h4, if_neg h5, if_neg (fun h => h6 h.1)]) ?_
      have k6 : (what.toList == [117, 112]) = false := plit_no h6
      clear hI hO HR Hbx hg ht hgn h1 h2 h3 h4 h5 h40 hc2 HWn hmx gb0 gb1 tb0 tb1 h6
      obtain ⟨ga, C, gk, ta, T, tk, ia, L, ik, z0, z1, z2, ra, R, rk, un, sh⟩ := s
      dsimp only at *
      obtain ⟨N, hN⟩ : ∃ N, C.length = N := ⟨_, rfl⟩
      obtain ⟨M, hM⟩ : ∃ M, T.length = M := ⟨_, rfl⟩
      obtain ⟨m, hm⟩ : ∃ m, L.length = m := ⟨_, rfl⟩
      obtain ⟨Nr, hNr⟩ : ∃ Nr, R.length = Nr := ⟨_, rfl⟩
      simp only [hN, hM, hm, hNr] at *
      clear hN hM hm hNr
      subst hb2
      go_enter Tryz.func46, Tryz.ntmps46
      go_wp2_with (first
        | (go_at_call 38; (with_reducible refine (HF.out _ (by (repeat' (first | with_reducible exact Below.refl _ _ | with_reducible assumption | with_reducible refine Below.drew ?_ | with_reducible refine below_drewN' ?_ _ | with_reducible refine Below.alloc ?_ ?_ _ | with_reducible refine Below.setCell ?_ ?_ _ | with_reducible refine below_step (by assumption) ?_ ?_ | omega | (simp; done) | (simp; omega))))).mono ?_); rintro e w1 ⟨rfl, hb1⟩; have HB1 := Lib.hid (show Below w.heap.size w w1 by (repeat' (first | with_reducible exact Below.refl _ _ | with_reducible assumption | with_reducible refine Below.drew ?_ | with_reducible refine below_drewN' ?_ _ | with_reducible refine Below.alloc ?_ ?_ _ | with_reducible refine Below.setCell ?_ ?_ _ | with_reducible refine below_step (by assumption) ?_ ?_ | omega | (simp; done) | (simp; omega)))); have HS1 := Lib.hid (((Blk.new w 52 [.slice _ N gk, .slice ta M tk, .slice _ m ik, .int .i64 z0, .int .i64 z1, .int .i64 z2, .slice ra Nr rk, .int .i64 un, .int .i64 sh]).alloc _).below hb1); have HC1 := Lib.hid ((Blk.new (w.alloc _) 59 [.string what, .string nm, .int .i64 n]).below hb1); rw [HZ0.out] at HC1; obtain ⟨hc1, hf1⟩ := bcell hb1; have hz1 := hb1.size; (try simp at hz1); have hy1 : w.heap.size < w1.heap.size := (by omega); have hx1 : w.heap.size + 1 < w1.heap.size := (by omega))
        | (go_at_call 68; (with_reducible refine (HCt.out _ HB1.out).mono ?_); rintro e w2 ⟨rfl, hb2⟩; have HB2 := Lib.hid (HB1.out.trans (hb2.mono HB1.out.size)); have HS2 := Lib.hid (HS1.out.below hb2); have HC2 := Lib.hid (HC1.out.below hb2); obtain ⟨hc2, hf2⟩ := bcell hb2; have hz2 := hb2.size; have hy2 : w.heap.size < w2.heap.size := (by omega); have hx2 : w.heap.size + 1 < w2.heap.size := (by omega)))
      have HRs := Lib.hid (show w2.rangeAt w.heap.size 0 [.slice (some ⟨b2, o2, none⟩) N gk, .slice ta M tk, .slice ia m ik, .int .i64 z0, .int .i64 z1, .int .i64 z2, .slice ra Nr rk, .int .i64 un, .int .i64 sh] from HS2.out.range 0 _ rfl)
      have y2 := HC2.out.cell 2
      have y0 := HS2.out.cell 0
      dsimp only [List.getElem?_cons_zero, List.getElem?_cons_succ] at y2 y0
      have e2 := (HB2.out.cell (p := ⟨b2, o2 + j * 15 + 2, none⟩) hbw2).trans x2
      have hv2 : b2 < w2.heap.size := Nat.lt_of_lt_of_le hbw2 HB2.out.size
      clear hc1 hc2 hf1 hf2 x2
      have hcH := held_cell
      refine region_rel (by kernel_rfl) (by kernel_rfl) ?_
      repeat
        ((with_reducible refine relStep (fun K hK => ?_))
         (have HK := Lib.hid hK)
         clear hK
         (apply relInl
          · intro r n hf
            have Hf := Lib.hid hf
            clear hf
            (first
              | (((with_reducible refine at_rel (ty := 52) ?_); refine rel_load rfl w.heap.size 0 rfl [.slice (some ⟨b2, o2, none⟩) N gk, .slice ta M tk, .slice ia m ik, .int .i64 z0, .int .i64 z1, .int .i64 z2, .slice ra Nr rk, .int .i64 un, .int .i64 sh] _ Tryz.underlying52 rfl (by kernel_rfl) (rangeAt_mono HRs.out hy2 n.below) rfl))
              | (unfold relAt
                 go_simp
                 (first | (refine relUpon_val ?_ (Below.refl _ _); exact rfl) | exact rfl | (refine relUpon_enter ?_; (first | (go_at_call 40; (with_reducible refine (HTg.out _ (HB2.out.trans (n.below.mono HB2.out.size))).mono ?_); rintro e w9 ⟨rfl, hb⟩; exact ⟨⟨_, rfl, rfl⟩, hb⟩) | (go_at_call 69; (with_reducible refine (HEx.out _).mono ?_); rintro e w9 ⟨rfl, hb⟩; exact ⟨⟨_, rfl, rfl⟩, hb⟩))))))
          (simp only [Act.put, List.setIfInBounds_toArray, List.set_cons_zero, List.set_cons_succ])
          (with_reducible refine HK.out _ _ ?_)
          clear HK K))
      refine relNil ?_
      intro r9 n9 hx9
      clear hcH
      (try simp only [List.nil_append, List.cons_append, List.mem_cons, List.not_mem_nil, or_false, forall_eq_or_imp, forall_eq, false_implies, implies_true] at hx9)
      obtain ⟨w9, hb9⟩ := n9
      (try dsimp only)
      obtain ⟨hc9, hf9⟩ := bcell hb9
      have hz9 := hb9.size
      (try simp at hz9)
      have HB9 := Lib.hid (HB2.out.trans (hb9.mono HB2.out.size))
      have HS9 := Lib.hid (HS2.out.below hb9)
      have HC9 := Lib.hid (HC2.out.below hb9)
      have s0 := HS9.out.cell 0
      have s1 := HS9.out.cell 1
      have s2 := HS9.out.cell 2
      have s3 := HS9.out.cell 3
      have s4 := HS9.out.cell 4
      have s5 := HS9.out.cell 5
      have s6 := HS9.out.cell 6
      have s7 := HS9.out.cell 7
      have s8 := HS9.out.cell 8
      have r0 := HC9.out.cell 0
      have r1 := HC9.out.cell 1
      have r2 := HC9.out.cell 2
      dsimp only [List.getElem?_cons_zero, List.getElem?_cons_succ] at s0 s1 s2 s3 s4 s5 s6 s7 s8 r0 r1 r2
      clear hc9 hf9
      go_wp2
      go_ret
      exact ⟨rfl, HB9.out⟩
end Go.Proofs.YtmkdfcggjlhcpaaGreatDoor
