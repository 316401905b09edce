/-
  The contract of strconv.Itoa at this program: the library's own, laid at its numbers.
-/
import Derived.Test.YtmkdfcggjlhcpaaGreatDoorPeAx
import Derived.Test.YtmkdfcggjlhcpaaGreatDoorMIx
import Derived.BigRegion
import Derived.Test.YtmkdfcggjlhcpaaGreatDoorClPx
import Derived.Shelf.LaysM
import Derived.Shelf.Strconv.Itoa3
import Derived.Shelf.SlSorted.Search
import Derived.Lib.AppendIntMem
namespace Go.Proofs.YtmkdfcggjlhcpaaGreatDoor
open Go.RowKit
set_option linter.unusedVariables false
set_option linter.unusedSimpArgs false
theorem aft_ok {s : St} {what nm : ByteArray} {n : Int} {b : Bool} (hO : StOk s) (h : whyP s what nm n b = 0) : StOk (aft s what nm n) := by
  rcases why_zero h with ⟨j, g, t, Y⟩ | ⟨k, x, j, g, t, Y⟩
  · rw [Y.aft]
    refine ⟨by dsimp only; rw [List.length_set]; exact hO.lt, hO.g16, hO.gl, hO.gb, fun i y u hy hu => ?_, hO.lb, hO.rb, hO.cb⟩
    dsimp only at hy hu
    by_cases e : j = i
    · subst e
      rw [List.getElem?_set_self (lt_at Y.ht)] at hu
      rw [Y.hg] at hy
      obtain rfl := Option.some.inj hy
      obtain rfl := Option.some.inj hu
      have htb := hO.tb j g t Y.hg Y.ht
      have hn := Y.hn
      by_cases e2 : what = sFix
      · rw [if_pos e2]
        have := Y.fx e2
        omega
      · rw [if_neg e2]
        have := Y.mr e2
        omega
    · rw [List.getElem?_set_ne e] at hu
      exact hO.tb i y u hy hu
  · rw [Y.aft]
    refine ⟨?_, hO.g16, hO.gl, hO.gb, fun i y u hy hu => ?_, by dsimp only; rw [List.length_set]; exact hO.lb, hO.rb, hO.cb⟩
    · dsimp only
      split
      · rw [List.length_set]; exact hO.lt
      · exact hO.lt
    · dsimp only at hy hu
      split at hu
      · rename_i hlt
        by_cases e : j = i
        · subst e
          rw [List.getElem?_set_self (lt_at Y.ht)] at hu
          rw [Y.hg] at hy
          obtain rfl := Option.some.inj hy
          obtain rfl := Option.some.inj hu
          have htb := hO.tb j g t Y.hg Y.ht
          omega
        · rw [List.getElem?_set_ne e] at hu
          exact hO.tb i y u hy hu
      · exact hO.tb i y u hy hu
theorem PAl.gk {s s' : St} (h : PAl s s') : s'.G = s.G := nrm_gk h.c
theorem PAl.why {s s' : St} (h : PAl s s') (what nm : ByteArray) (n : Int) (b : Bool) : whyP s' what nm n b = whyP s what nm n b := by
  have hc : ∀ j, (s'.C[j]?).map gkOf = (s.C[j]?).map gkOf := fun j => by rw [← List.getElem?_map, ← List.getElem?_map]; exact congrArg (·[j]?) h.gk
  unfold whyP whyG whyI
  rw [h.gk, h.t, h.l, h.r, h.un, h.sh]
  have hk : ∀ (j : Nat) (f : Int → Int → Int → Int), (match s'.C[j]?, s.T[j]? with | some g, some t => f g.mn g.mx t | _, _ => 16) = (match s.C[j]?, s.T[j]? with | some g, some t => f g.mn g.mx t | _, _ => 16) := fun j f => by
    have e := hc j
    cases h1 : s'.C[j]? with
    | none =>
      cases h2 : s.C[j]? with
      | none => rfl
      | some g => rw [h1, h2] at e; simp at e
    | some g' =>
      cases h2 : s.C[j]? with
      | none => rw [h1, h2] at e; simp at e
      | some g =>
        rw [h1, h2] at e
        have e := Option.some.inj e
        unfold gkOf at e
        injection e with e1 e2 e3
        cases s.T[j]? with
        | none => rfl
        | some t => dsimp only; rw [e2, e3]
  split
  · cases fndK s.G nm with
    | none => rfl
    | some j =>
      dsimp only
      split
      · rfl
      · exact hk j fun mn mx t => if what = sFix then (if t - n < mn ∨ t - n < (sizeI s.L nm : Int) then 20 else 0)
          else if s.sh < s.un then 22 else if s.R.any (strB nm) = true then 25 else if mx - t < n then 21 else if what = sUp ∧ b = false then 24 else 0
  · split
    · cases fndI s.L nm with
      | none => rfl
      | some k =>
        dsimp only
        cases s.L[k]? with
        | none => rfl
        | some x =>
          dsimp only
          cases fndK s.G x.gp with
          | none => rfl
          | some j => exact hk j fun mn mx t => whyV (decide (what = sClean)) x.st s.un s.sh t mn
    · rfl
theorem none_failP (w : World) : Calls Tryz.prog 11 #[.pointer none, .string ⟨#[]⟩] w fun e w' => e = .returned (.int .i64 23) ∧ w' = w := by
  go_enter Tryz.func11, Tryz.ntmps11
  go_wp2_with (go_at_call 29; (with_reducible refine (made_nil _).mono ?_); rintro e w1 ⟨rfl, rfl⟩)
  go_ret
  exact ⟨rfl, rfl⟩
theorem Blk.new_at {w : World} {n : Nat} {t : TypeId} {cs : List Value} (h : w.heap.size = n) : Blk (w.alloc (.cells cs.toArray t)) n t cs := h ▸ Blk.new w t cs
set_option maxRecDepth 100000 in
set_option maxHeartbeats 4000000 in
theorem of_nil (a : Option Addr) (l : List Gp) (ka : Nat) (w : World) (hF : GpL w a l) (hI : ∀ g ∈ l, MacIn w g.like) (hL : lightGs l = true) (hr : rightGs l = true) :
    Calls Tryz.prog 13 #[.slice a l.length ka, .pointer none, .agg #[.int .i64 0, .int .i64 0, .int .i64 0], .slice none 0 0, .int .i64 0, .int .i64 0] w fun e w' => e = .returned (.tuple #[.agg #[.slice none 0 0, .slice none 0 0, .slice none 0 0, .int .i64 0, .int .i64 0, .int .i64 0, .slice none 0 0, .int .i64 0, .int .i64 0], .int .i64 23]) ∧ Below w.heap.size w w' := by
  have HZ0 := Lib.hid (fun (o : Obj) => World.size_alloc w o)
  have HR := Lib.hid (fun V (hV : Below w.heap.size w V) => rightgs_any a l ka V (hF.mono hV) (fun g hg => (hI g hg).mono hV) hL)
  rw [hr] at HR
  obtain ⟨N, hN⟩ : ∃ N, l.length = N := ⟨_, rfl⟩
  rw [hN] at HR ⊢
  clear hF hI hL hr hN
  go_enter Tryz.func13, Tryz.ntmps13
  go_wp2_with (first
    | (go_at_call 26; (with_reducible refine (HR.out _ (by (repeat' (first | with_reducible exact Below.refl _ _ | with_reducible assumption | with_reducible refine Below.drew ?_ | with_reducible refine below_drewN' ?_ _ | with_reducible refine Below.alloc ?_ ?_ _ | with_reducible refine Below.setCell ?_ ?_ _ | with_reducible refine below_step (by assumption) ?_ ?_ | omega | (simp; done) | (simp; omega))))).mono ?_); rintro e w1 ⟨rfl, hb1⟩; have HB1 := Lib.hid (show Below w.heap.size w w1 by (repeat' (first | with_reducible exact Below.refl _ _ | with_reducible assumption | with_reducible refine Below.drew ?_ | with_reducible refine below_drewN' ?_ _ | with_reducible refine Below.alloc ?_ ?_ _ | with_reducible refine Below.setCell ?_ ?_ _ | with_reducible refine below_step (by assumption) ?_ ?_ | omega | (simp; done) | (simp; omega)))); have HY1 := Lib.hid ((Blk.new (w.alloc _) 52 [.slice none 0 0, .slice none 0 0, .slice none 0 0, .int .i64 0, .int .i64 0, .int .i64 0, .slice none 0 0, .int .i64 0, .int .i64 0]).below hb1); rw [HZ0.out] at HY1; obtain ⟨hc1, hf1⟩ := bcell hb1; have hz1 := hb1.size; (try simp at hz1); have hy1 : w.heap.size + 1 < w1.heap.size := (by omega); clear hb1 hc1 hf1)
    | (go_at_call 11; (with_reducible refine (none_failP _).mono ?_); rintro e w2 ⟨rfl, h2⟩; rw [h2]; clear h2)
    | ((with_reducible refine at_store (ty := 52) ?_); refine wpList_store_mid rfl 52 (.tmp 12) (.tmp 24) rfl (w.heap.size + 1) 0 _ rfl rfl (HY1.out.there 0 9 (Nat.le_of_ble_eq_true rfl)) (by kernel_rfl) (by rw [← Array.all_toList]; rfl) ?_; obtain ⟨W5, hW5⟩ : ∃ W5, W5 = w1.setCells (w.heap.size + 1) 0 [.slice none 0 0, .slice none 0 0, .slice none 0 0, .int .i64 0, .int .i64 0, .int .i64 0, .slice none 0 0, .int .i64 0, .int .i64 0] := ⟨_, rfl⟩; (show wpList _ _ _ _ _ (w1.setCells (w.heap.size + 1) 0 [.slice none 0 0, .slice none 0 0, .slice none 0 0, .int .i64 0, .int .i64 0, .int .i64 0, .slice none 0 0, .int .i64 0, .int .i64 0])); rw [← hW5]; have HO5 := Lib.hid (show Only [w.heap.size + 1] w1 W5 from by rw [hW5]; exact Only.setCells (.inl (by simp)) (Only.refl _ _) _ _); have HY5 := Lib.hid (show Blk W5 (w.heap.size + 1) 52 [.slice none 0 0, .slice none 0 0, .slice none 0 0, .int .i64 0, .int .i64 0, .int .i64 0, .slice none 0 0, .int .i64 0, .int .i64 0] from by rw [hW5]; exact HY1.out.setCells 0 _); clear hW5))
  have c0 := HY5.out.cell 0
  have c1 := HY5.out.cell 1
  have c2 := HY5.out.cell 2
  have c3 := HY5.out.cell 3
  have c4 := HY5.out.cell 4
  have c5 := HY5.out.cell 5
  have c6 := HY5.out.cell 6
  have c7 := HY5.out.cell 7
  have c8 := HY5.out.cell 8
  dsimp only [List.getElem?_cons_zero, List.getElem?_cons_succ] at c0 c1 c2 c3 c4 c5 c6 c7 c8
  refine bodyPost_ret (v := .tuple #[.agg #[.slice none 0 0, .slice none 0 0, .slice none 0 0, .int .i64 0, .int .i64 0, .int .i64 0, .slice none 0 0, .int .i64 0, .int .i64 0], .int .i64 23]) (by simp [results, Tryz.results13, go_sem, *]) rfl ⟨rfl, HO5.out.below HB1.out (by omega) (by simp)⟩
end Go.Proofs.YtmkdfcggjlhcpaaGreatDoor
namespace Go.Proofs.YtmkdfcggjlhcpaaGreatDoor
open Go.RowKit
set_option linter.unusedVariables false
set_option linter.unusedSimpArgs false
theorem pinB {x a b : Int} (h : inB x a b = true) : a ≤ x ∧ x ≤ b := by
  unfold inB at h
  simpa using h
structure GrOk (l : List Gp) : Prop where
  g16 : l.length ≤ 16
  gl : ∀ x ∈ l, x.like.labs.length ≤ 40 ∧ x.like.tnts.length ≤ 40
  gb : ∀ x ∈ l, 0 ≤ x.mn ∧ x.mn ≤ x.mx ∧ x.mx ≤ 200 ∧ (0 ≤ x.like.r0 ∧ x.like.r0 ≤ 1125899906842624) ∧ (0 ≤ x.like.r1 ∧ x.like.r1 ≤ 1125899906842624)
theorem GrOk.mk' {l : List Gp} (hr : rightGs l = true) (hL : lightGs l = true) : GrOk l := by
  have h16 : l.length ≤ 16 := by
    unfold rightGs at hr
    rw [Bool.and_eq_true] at hr
    exact of_decide_eq_true hr.1
  refine ⟨h16, fun x hx => ?_, fun x hx => ?_⟩
  · have h := (((lightGs_iff l).1 hL).2 x hx).2
    unfold lightM at h
    simp only [Bool.and_eq_true, decide_eq_true_eq] at h
    refine ⟨((lightL_iff _).1 h.1.2).1, ?_⟩
    have h2 := h.2
    unfold lightB at h2
    simp only [Bool.and_eq_true, decide_eq_true_eq] at h2
    exact h2.1.2
  · obtain ⟨k, hk⟩ := List.getElem?_of_mem hx
    unfold rightGs at hr
    rw [Bool.and_eq_true, List.all_eq_true] at hr
    have h1 := hr.2 k (List.mem_range.2 (List.getElem?_eq_some_iff.1 hk).1)
    rw [okG_at hk, Bool.and_eq_true, Bool.and_eq_true] at h1
    have h2 := h1.1.1
    unfold rightG at h2
    simp only [Bool.and_eq_true] at h2
    obtain ⟨⟨⟨⟨⟨⟨⟨⟨-, a1⟩, a2⟩, -⟩, -⟩, a3⟩, -⟩, -⟩, -⟩ := h2
    have b1 := pinB a1
    have b2 := pinB a2
    unfold rightM at a3
    simp only [Bool.and_eq_true] at a3
    have b3 := (rtB_iff _ _ _ _ _).1 a3.1.1.2
    exact ⟨b2.1, b2.2, b1.2, b3.1, b3.2.1⟩
theorem aft_same (s : St) (what nm : ByteArray) (n : Int) : (aft s what nm n).C = s.C ∧ (aft s what nm n).R = s.R ∧ (aft s what nm n).un = s.un ∧ (aft s what nm n).sh = s.sh ∧ (aft s what nm n).L.length = s.L.length ∧
    ∀ (k : Nat) (x y : Ins), s.L[k]? = some x → (aft s what nm n).L[k]? = some y → x.st = 3 → y.st = 3 := by
  have hid : ∀ (k : Nat) (x y : Ins), s.L[k]? = some x → s.L[k]? = some y → x.st = 3 → y.st = 3 := fun k x y hx hy h3 => by
    rw [hx] at hy
    obtain rfl := Option.some.inj hy
    exact h3
  unfold aft
  split
  · split
    · exact ⟨rfl, rfl, rfl, rfl, rfl, hid⟩
    · split
      · exact ⟨rfl, rfl, rfl, rfl, rfl, hid⟩
      · exact ⟨rfl, rfl, rfl, rfl, rfl, hid⟩
  · split
    · exact ⟨rfl, rfl, rfl, rfl, rfl, hid⟩
    · split
      · exact ⟨rfl, rfl, rfl, rfl, rfl, hid⟩
      · split
        · exact ⟨rfl, rfl, rfl, rfl, rfl, hid⟩
        · split
          · rename_i k hk _ x hx _ j hj _ _ g t hg ht
            refine ⟨rfl, rfl, rfl, rfl, by dsimp only; rw [List.length_set], fun i y z hy hz h3 => ?_⟩
            dsimp only at hz
            by_cases e : k = i
            · subst e
              rw [List.getElem?_set_self (lt_at hy)] at hz
              obtain rfl := Option.some.inj hz
              rfl
            · rw [List.getElem?_set_ne e] at hz
              exact hid i y z hy hz h3
          · exact ⟨rfl, rfl, rfl, rfl, rfl, hid⟩
end Go.Proofs.YtmkdfcggjlhcpaaGreatDoor
namespace Go.Proofs.YtmkdfcggjlhcpaaGreatDoor
open Go.RowKit
set_option linter.unusedVariables false
set_option linter.unusedSimpArgs false
theorem list_set_same {α : Type} : ∀ (l : List α) (k : Nat) (x y : α), (l.set k x).set k y = l.set k y
  | [], _, _, _ => rfl
  | _ :: _, 0, _, _ => rfl
  | z :: l, k + 1, x, y => by rw [List.set_cons_succ, List.set_cons_succ, List.set_cons_succ, list_set_same l k x y]
theorem plI_none {L : List Ins} {s : ByteArray} (h : fndI L s = none) : plI L s = -1 := by unfold plI; rw [h]
theorem plI_some {L : List Ins} {s : ByteArray} {k : Nat} (h : fndI L s = some k) : plI L s = (k : Int) := by unfold plI; rw [h]
set_option maxRecDepth 100000 in
set_option maxHeartbeats 4000000 in
theorem fail_any (base b : Nat) (G : List Gp) (s : CS) (gv pv lv : Value) (key : ByteArray) (w : World) (h : CT w base b G s gv pv lv) (hL : s.L.length ≤ 1000000) :
    Calls Tryz.prog 11 #[.pointer (some ⟨b, 0, none⟩), .string key] w fun e w' => e = .returned (.int .i64 (s.fail key).2) ∧ CT w' base b G (s.fail key).1 gv pv lv ∧ Only lv.ownBlock.toList w w' := by
  have c0 := h.row.cell 0
  have c3 := h.row.cell 3
  dsimp only [List.getElem?_cons_zero, List.getElem?_cons_succ] at c0 c3
  have HL := Lib.hid (fun V (hb : Below w.heap.size w V) => cfind_any base b G s gv pv lv key V (h.below hb) hL)
  obtain ⟨a, k, rfl, hR⟩ := h.insts
  have hbl := h.row.lt
  have HR := Lib.hid hR
  have Hh := Lib.hid h
  obtain ⟨n, hn⟩ : ∃ n, s.L.length = n := ⟨_, rfl⟩
  have Hn := Lib.hid hn
  rw [hn] at c3 hL
  clear h hR hn
  cases hf : fndI s.L key with
  | none =>
    have hT : s.fail key = (s, 16) := by unfold CS.fail; rw [hf]
    rw [plI_none hf] at HL
    rw [hT]
    clear hf
    go_enter Tryz.func11, Tryz.ntmps11
    go_wp2_with (first
      | (go_at_call 29; (with_reducible refine (made_yes b _ c0).mono ?_); rintro e w1 ⟨rfl, rfl⟩)
      | (go_at_call 31; (with_reducible refine (HL.out _ (by (repeat' (first | with_reducible exact Below.refl _ _ | with_reducible assumption | with_reducible refine Below.drew ?_ | with_reducible refine below_drewN' ?_ _ | with_reducible refine Below.alloc ?_ ?_ _ | with_reducible refine Below.setCell ?_ ?_ _ | with_reducible refine below_step (by assumption) ?_ ?_ | omega | (simp; done) | (simp; omega))))).mono ?_); rintro e w2 ⟨rfl, hb2⟩; have HB2 := Lib.hid hb2))
    go_ret
    exact ⟨rfl, Hh.out.below HB2.out, Only.of_below HB2.out⟩
  | some j =>
    obtain ⟨x, hx, _⟩ := fndI_lt hf
    have hjn : j < n := by have := lt_at hx; rw [Hn.out] at this; exact this
    obtain ⟨q, rfl, _, hq, hc⟩ := HR.out (by rw [Hn.out]; omega)
    obtain ⟨_, _, d2, d3, _⟩ := hc j x hx
    have f2 := (Hh.out.lo).frozenAt (j * 5 + 2)
    have f3 := (Hh.out.lo).frozenAt (j * 5 + 3)
    have k1 : decide ((j : Int) < 0) = false := decide_eq_false (by omega)
    have Hx := Lib.hid hx
    rw [plI_some hf] at HL
    have hbq : b ≠ q := (blk_ty Hh.out.row).ne (own_ty Hh.out.lo rfl) (by decide)
    by_cases h1 : x.st = 1
    · have hT : s.fail key = ({ s with L := s.L.set j { x with st := 4, lf := 0 } }, 0) := by
        unfold CS.fail
        rw [hf]
        dsimp only
        rw [hx]
        dsimp only
        rw [if_pos h1]
      have k2 : (x.st != 1) = false := by rw [h1]; rfl
      rw [hT]
      clear hf hx hc h1
      go_enter Tryz.func11, Tryz.ntmps11
      go_wp2_with (first
        | (go_at_call 29; (with_reducible refine (made_yes b _ c0).mono ?_); rintro e w1 ⟨rfl, rfl⟩)
        | (go_at_call 31; (with_reducible refine (HL.out _ (by (repeat' (first | with_reducible exact Below.refl _ _ | with_reducible assumption | with_reducible refine Below.drew ?_ | with_reducible refine below_drewN' ?_ _ | with_reducible refine Below.alloc ?_ ?_ _ | with_reducible refine Below.setCell ?_ ?_ _ | with_reducible refine below_step (by assumption) ?_ ?_ | omega | (simp; done) | (simp; omega))))).mono ?_); rintro e w2 ⟨rfl, hb2⟩; have HB2 := Lib.hid hb2; obtain ⟨hc2, hf2⟩ := bcell hb2))
      have HT2 := Lib.hid (Hh.out.below HB2.out)
      have y3 : w2.cell? ⟨b, 3, none⟩ = some (.slice (some ⟨q, 0, none⟩) n k) := (hc2 b 3 hbl).trans c3
      have y0 : w2.cell? ⟨b, 0, none⟩ = some (.pointer (some ⟨b, 0, none⟩)) := (hc2 b 0 hbl).trans c0
      have u2 := HT2.out.lo.frozenAt (j * 5 + 2)
      have u3 := HT2.out.lo.frozenAt (j * 5 + 3)
      have hbl2 : b < w2.heap.size := HT2.out.row.lt
      have hq2 : q < w2.heap.size := (own_lt HT2.out.lo rfl).2
      have e2 : w2.cell? ⟨q, j * 5 + 2, none⟩ = _ := (hc2 q (j * 5 + 2) hq).trans d2
      have e3 : w2.cell? ⟨q, j * 5 + 3, none⟩ = _ := (hc2 q (j * 5 + 3) hq).trans d3
      clear c0 c3 d2 d3 f2 f3 hc2 hf2 hb2
      go_region
      go_wp2
      go_ret
      have h9 := (HT2.out.iset (v := .int .i64 4) (y := { x with st := 4 }) rfl Hx.out (r := 2) (by decide) rfl).iset (j := j) (x := { x with st := 4 }) (y := { x with st := 4, lf := 0 }) (v := .int .i64 0) (r := 3) rfl (by dsimp only; rw [List.getElem?_set_self (by rw [Hn.out]; exact hjn)]) (by decide) rfl
      dsimp only at h9
      rw [list_set_same] at h9
      exact ⟨rfl, h9.below (Below.refl _ _).drew, (((Only.of_below HB2.out).setCell (p := ⟨q, j * 5 + 2, none⟩) (.inl (List.mem_singleton.2 rfl)) _).setCell (p := ⟨q, j * 5 + 3, none⟩) (.inl (List.mem_singleton.2 rfl)) _).drew⟩
    · have hT : s.fail key = (s, 22) := by
        unfold CS.fail
        rw [hf]
        dsimp only
        rw [hx]
        dsimp only
        rw [if_neg h1]
      have k2 : (x.st != 1) = true := by simpa using h1
      rw [hT]
      clear hf hx hc h1
      go_enter Tryz.func11, Tryz.ntmps11
      go_wp2_with (first
        | (go_at_call 29; (with_reducible refine (made_yes b _ c0).mono ?_); rintro e w1 ⟨rfl, rfl⟩)
        | (go_at_call 31; (with_reducible refine (HL.out _ (by (repeat' (first | with_reducible exact Below.refl _ _ | with_reducible assumption | with_reducible refine Below.drew ?_ | with_reducible refine below_drewN' ?_ _ | with_reducible refine Below.alloc ?_ ?_ _ | with_reducible refine Below.setCell ?_ ?_ _ | with_reducible refine below_step (by assumption) ?_ ?_ | omega | (simp; done) | (simp; omega))))).mono ?_); rintro e w2 ⟨rfl, hb2⟩; have HB2 := Lib.hid hb2; obtain ⟨hc2, hf2⟩ := bcell hb2))
      go_ret
      exact ⟨rfl, Hh.out.below HB2.out, Only.of_below HB2.out⟩
theorem cwrap_in {x : Int} (h : -9223372036854775808 ≤ x) (h' : x < 9223372036854775808) : IntKind.i64.wrap x = x := by simp [IntKind.wrap, IntKind.bits, IntKind.signed]; omega
set_option maxRecDepth 100000 in
set_option maxHeartbeats 8000000 in
theorem decr_any (base b : Nat) (G : List Gp) (s : CS) (gv pv lv : Value) (key : ByteArray) (n : Int) (w : World) (h : CT w base b G s gv pv lv) (m : Nat) (hO : s.Ok m) (hm : m ≤ 100) (hn0 : -9223372036854775808 ≤ n) (hn1 : n ≤ 9223372036854775807) :
    Calls Tryz.prog 10 #[.pointer (some ⟨b, 0, none⟩), .string key, .int .i64 n] w fun e w' => e = .returned (.int .i64 (s.dec key n).2) ∧ CT w' base b G (s.dec key n).1 gv pv lv ∧ Only (b :: pv.ownBlock.toList) w w' := by
  have hz : G.length = s.G.length := by rw [← h.gk, List.length_map]
  have hG16 := hO.g16
  have hL9 : s.L.length ≤ 1000000 := by have := hO.lb; omega
  have c0 := h.row.cell 0
  have c1 := h.row.cell 1
  have c2 := h.row.cell 2
  have c6 := h.row.cell 6
  have f6 := h.row.frozen 6
  dsimp only [List.getElem?_cons_zero, List.getElem?_cons_succ] at c0 c1 c2 c6
  have HL := Lib.hid (fun V (hb : Below w.heap.size w V) => place_any base b G s gv pv lv key V (h.below hb) (by unfold maxLen; omega))
  have HS := Lib.hid (fun V (hb : Below w.heap.size w V) => size_any base b G s gv pv lv key V (h.below hb) hL9)
  obtain ⟨a, k, rfl, hR⟩ := h.pools
  obtain ⟨ga, gk, rfl, hGr⟩ := h.groups
  have hbl := h.row.lt
  have HR := Lib.hid hR
  have HGr := Lib.hid hGr
  have Hh := Lib.hid h
  have hgk := h.gk
  have hP := hO.ln
  obtain ⟨N, hN⟩ : ∃ N, s.P.length = N := ⟨_, rfl⟩
  have HN := Lib.hid hN
  have HO := Lib.hid hO
  rw [hN] at c2 hP
  clear h hR hN hO hGr
  cases hf : fndK s.G key with
  | none =>
    have hT : s.dec key n = (s, 16) := by unfold CS.dec; rw [hf]
    have hA : findA G key 0 = -1 := findA_none (by rw [hgk]; exact hf)
    rw [hA] at HL
    rw [hT]
    clear hf hgk
    go_enter Tryz.func10, Tryz.ntmps10
    go_wp2_with (first
      | (go_at_call 29; (with_reducible refine (made_yes b _ c0).mono ?_); rintro e w1 ⟨rfl, rfl⟩)
      | (go_at_call 30; (with_reducible refine (HL.out _ (by (repeat' (first | with_reducible exact Below.refl _ _ | with_reducible assumption | with_reducible refine Below.drew ?_ | with_reducible refine below_drewN' ?_ _ | with_reducible refine Below.alloc ?_ ?_ _ | with_reducible refine Below.setCell ?_ ?_ _ | with_reducible refine below_step (by assumption) ?_ ?_ | omega | (simp; done) | (simp; omega))))).mono ?_); rintro e w2 ⟨rfl, hb2⟩; have HB2 := Lib.hid hb2))
    go_ret
    exact ⟨rfl, Hh.out.below HB2.out, Only.of_below HB2.out⟩
  | some j =>
    obtain ⟨g, hg, _⟩ := fndK_lt hf
    have hjn : j < N := by have := lt_at hg; omega
    obtain ⟨p, hp⟩ := mem_at (l := s.P) (k := j) (by rw [HN.out]; exact hjn)
    obtain ⟨g', hg'⟩ := mem_at (l := G) (k := j) (by omega)
    have hgg : gkOf g' = g := by
      have h9 : (G.map gkOf)[j]? = some (gkOf g') := by rw [List.getElem?_map, hg']; rfl
      rw [hgk, hg] at h9
      exact (Option.some.inj h9).symm
    have hA : findA G key 0 = (j : Int) := findA_some (by rw [hgk]; exact hf)
    rw [hA] at HL
    have hT : s.dec key n = if n < 1 then (s, 1) else if p.t - n < g.mn ∨ p.t - n < sizeI s.L key then (s, 20) else ({ s with P := s.P.set j ⟨p.t - n, p.la, p.br⟩, ca := s.ca + 1 }, 0) := by
      unfold CS.dec
      rw [hf]
      dsimp only
      rw [hg, hp]
    obtain ⟨q, rfl, _, hq, hc⟩ := HR.out (by rw [HN.out]; omega)
    obtain ⟨d0, _, _⟩ := hc j p hp
    obtain ⟨gb, go, rfl, hgb, hgc⟩ := HGr.out (by omega)
    obtain ⟨_, x1, _⟩ := grow_cells (hgc j g' hg')
    have hmn : g'.mn = g.mn := by rw [← hgg]; rfl
    rw [hmn] at x1
    obtain ⟨t0, t1, _, _⟩ := HO.out.tb j g p hg hp
    obtain ⟨b0, b1, b2, b3, _⟩ := HO.out.gb g (List.mem_of_getElem? hg)
    obtain ⟨_, _, n0, n1⟩ := HO.out.nb
    have fp := (Hh.out.po).frozenAt (j * 3)
    have k1 : decide ((j : Int) < 0) = false := decide_eq_false (by omega)
    have Hp := Lib.hid hp
    have hbq : b ≠ q := (blk_ty Hh.out.row).ne (own_ty Hh.out.po rfl) (by decide)
    obtain ⟨z, hz9⟩ : ∃ z, sizeI s.L key = z := ⟨_, rfl⟩
    have hzb : z ≤ 1000000 := by have := sizeI_le s.L key; omega
    rw [hz9] at HS hT
    rw [hT]
    have hjG : j < G.length := by omega
    have hji : (j : Int) < (N : Int) := by omega
    have hjI : (j : Int) < (G.length : Int) := by omega
    have hj0 : (0 : Int) ≤ (j : Int) := by omega
    clear hf hgk hg hp hc hgc hT hz9 hgg hg' hz hP
    by_cases h1 : n < 1
    · have k2 : decide (n < 1) = true := decide_eq_true h1
      rw [if_pos h1]
      go_enter Tryz.func10, Tryz.ntmps10
      go_wp2_with (first
        | (go_at_call 29; (with_reducible refine (made_yes b _ c0).mono ?_); rintro e w1 ⟨rfl, rfl⟩)
        | (go_at_call 30; (with_reducible refine (HL.out _ (by (repeat' (first | with_reducible exact Below.refl _ _ | with_reducible assumption | with_reducible refine Below.drew ?_ | with_reducible refine below_drewN' ?_ _ | with_reducible refine Below.alloc ?_ ?_ _ | with_reducible refine Below.setCell ?_ ?_ _ | with_reducible refine below_step (by assumption) ?_ ?_ | omega | (simp; done) | (simp; omega))))).mono ?_); rintro e w2 ⟨rfl, hb2⟩; have HB2 := Lib.hid hb2; obtain ⟨hc2, hf2⟩ := bcell hb2))
      go_ret
      exact ⟨rfl, Hh.out.below HB2.out, Only.of_below HB2.out⟩
    · have k2 : decide (n < 1) = false := decide_eq_false h1
      have hw : IntKind.i64.wrap (p.t - n) = p.t - n := cwrap_in (by omega) (by omega)
      have hw2 : IntKind.i64.wrap (s.ca + 1) = s.ca + 1 := cwrap_in (by omega) (by omega)
      rw [if_neg h1]
      by_cases h2 : p.t - n < g.mn ∨ p.t - n < (z : Int)
      · rw [if_pos h2]
        by_cases h5 : g.mn < (z : Int)
        · have k3 : p.t - n < (z : Int) := by omega
          go_enter Tryz.func10, Tryz.ntmps10
          go_wp2_with (first
            | (go_at_call 29; (with_reducible refine (made_yes b _ c0).mono ?_); rintro e w1 ⟨rfl, rfl⟩)
            | (go_at_call 30; (with_reducible refine (HL.out _ (by (repeat' (first | with_reducible exact Below.refl _ _ | with_reducible assumption | with_reducible refine Below.drew ?_ | with_reducible refine below_drewN' ?_ _ | with_reducible refine Below.alloc ?_ ?_ _ | with_reducible refine Below.setCell ?_ ?_ _ | with_reducible refine below_step (by assumption) ?_ ?_ | omega | (simp; done) | (simp; omega))))).mono ?_); rintro e w2 ⟨rfl, hb2⟩; have HB2 := Lib.hid hb2; have hz2 := hb2.size; obtain ⟨hc2, hf2⟩ := bcell hb2))
          have HT2 := Lib.hid (Hh.out.below HB2.out)
          have y1 : w2.cell? ⟨b, 1, none⟩ = _ := (hc2 b 1 hbl).trans c1
          have y2 : w2.cell? ⟨b, 2, none⟩ = _ := (hc2 b 2 hbl).trans c2
          have e0 : w2.cell? ⟨q, j * 3, none⟩ = _ := (hc2 q (j * 3) hq).trans d0
          have e1 : w2.cell? ⟨gb, go + j * 15 + 1, none⟩ = _ := (hc2 gb (go + j * 15 + 1) hgb).trans x1
          have hbl2 : b < w2.heap.size := HT2.out.row.lt
          have hq2 : q < w2.heap.size := (own_lt HT2.out.po rfl).2
          have hg2 : gb < w2.heap.size := Nat.lt_of_lt_of_le hgb hz2
          clear c1 c2 d0 x1 hc2 hf2 hb2 hz2
          have hcH := held_cell
          refine region_below (by kernel_rfl) (by kernel_rfl) ?_
          repeat
            ((with_reducible refine wpQuiet_step (fun K hK => ?_))
             go_simp
             first
               | ((with_reducible refine hK _ ?_); clear hK K)
               | (apply Exists.intro
                  (with_reducible refine ⟨fun n => ?_, hK _ ?_⟩)
                  ((go_at_call 32; exact held_calls (HS.out _ (HB2.out.trans (n.below.mono HB2.out.size)))))
                  clear hK K))
          with_reducible refine wpQuiet_nil ?_
          intro w5 hw2
          clear hcH
          obtain ⟨⟨_, hb5⟩, rfl⟩ := hw2
          (try dsimp only)
          obtain ⟨hc5, hf5⟩ := bcell hb5
          have hz5 := hb5.size
          (try simp at hz5)
          go_wp2
          go_ret
          exact ⟨rfl, HT2.out.below hb5, Only.of_below (HB2.out.trans (hb5.mono HB2.out.size))⟩
        · have k3 : p.t - n < g.mn := by omega
          go_enter Tryz.func10, Tryz.ntmps10
          go_wp2_with (first
            | (go_at_call 29; (with_reducible refine (made_yes b _ c0).mono ?_); rintro e w1 ⟨rfl, rfl⟩)
            | (go_at_call 30; (with_reducible refine (HL.out _ (by (repeat' (first | with_reducible exact Below.refl _ _ | with_reducible assumption | with_reducible refine Below.drew ?_ | with_reducible refine below_drewN' ?_ _ | with_reducible refine Below.alloc ?_ ?_ _ | with_reducible refine Below.setCell ?_ ?_ _ | with_reducible refine below_step (by assumption) ?_ ?_ | omega | (simp; done) | (simp; omega))))).mono ?_); rintro e w2 ⟨rfl, hb2⟩; have HB2 := Lib.hid hb2; have hz2 := hb2.size; obtain ⟨hc2, hf2⟩ := bcell hb2))
          have HT2 := Lib.hid (Hh.out.below HB2.out)
          have y1 : w2.cell? ⟨b, 1, none⟩ = _ := (hc2 b 1 hbl).trans c1
          have y2 : w2.cell? ⟨b, 2, none⟩ = _ := (hc2 b 2 hbl).trans c2
          have e0 : w2.cell? ⟨q, j * 3, none⟩ = _ := (hc2 q (j * 3) hq).trans d0
          have e1 : w2.cell? ⟨gb, go + j * 15 + 1, none⟩ = _ := (hc2 gb (go + j * 15 + 1) hgb).trans x1
          have hbl2 : b < w2.heap.size := HT2.out.row.lt
          have hq2 : q < w2.heap.size := (own_lt HT2.out.po rfl).2
          have hg2 : gb < w2.heap.size := Nat.lt_of_lt_of_le hgb hz2
          clear c1 c2 d0 x1 hc2 hf2 hb2 hz2
          have hcH := held_cell
          refine region_below (by kernel_rfl) (by kernel_rfl) ?_
          repeat
            ((with_reducible refine wpQuiet_step (fun K hK => ?_))
             go_simp
             first
               | ((with_reducible refine hK _ ?_); clear hK K)
               | (apply Exists.intro
                  (with_reducible refine ⟨fun n => ?_, hK _ ?_⟩)
                  ((go_at_call 32; exact held_calls (HS.out _ (HB2.out.trans (n.below.mono HB2.out.size)))))
                  clear hK K))
          with_reducible refine wpQuiet_nil ?_
          intro w5 hw2
          clear hcH
          obtain ⟨⟨_, hb5⟩, rfl⟩ := hw2
          (try dsimp only)
          obtain ⟨hc5, hf5⟩ := bcell hb5
          have hz5 := hb5.size
          (try simp at hz5)
          go_wp2
          go_ret
          exact ⟨rfl, HT2.out.below hb5, Only.of_below (HB2.out.trans (hb5.mono HB2.out.size))⟩
      · rw [if_neg h2]
        by_cases h5 : g.mn < (z : Int)
        · have k3 : ¬ p.t - n < (z : Int) := by omega
          go_enter Tryz.func10, Tryz.ntmps10
          go_wp2_with (first
            | (go_at_call 29; (with_reducible refine (made_yes b _ c0).mono ?_); rintro e w1 ⟨rfl, rfl⟩)
            | (go_at_call 30; (with_reducible refine (HL.out _ (by (repeat' (first | with_reducible exact Below.refl _ _ | with_reducible assumption | with_reducible refine Below.drew ?_ | with_reducible refine below_drewN' ?_ _ | with_reducible refine Below.alloc ?_ ?_ _ | with_reducible refine Below.setCell ?_ ?_ _ | with_reducible refine below_step (by assumption) ?_ ?_ | omega | (simp; done) | (simp; omega))))).mono ?_); rintro e w2 ⟨rfl, hb2⟩; have HB2 := Lib.hid hb2; have hz2 := hb2.size; obtain ⟨hc2, hf2⟩ := bcell hb2))
          have HT2 := Lib.hid (Hh.out.below HB2.out)
          have y1 : w2.cell? ⟨b, 1, none⟩ = _ := (hc2 b 1 hbl).trans c1
          have y2 : w2.cell? ⟨b, 2, none⟩ = _ := (hc2 b 2 hbl).trans c2
          have e0 : w2.cell? ⟨q, j * 3, none⟩ = _ := (hc2 q (j * 3) hq).trans d0
          have e1 : w2.cell? ⟨gb, go + j * 15 + 1, none⟩ = _ := (hc2 gb (go + j * 15 + 1) hgb).trans x1
          have hbl2 : b < w2.heap.size := HT2.out.row.lt
          have hq2 : q < w2.heap.size := (own_lt HT2.out.po rfl).2
          have hg2 : gb < w2.heap.size := Nat.lt_of_lt_of_le hgb hz2
          clear c1 c2 d0 x1 hc2 hf2 hb2 hz2
          have hcH := held_cell
          refine region_below (by kernel_rfl) (by kernel_rfl) ?_
          repeat
            ((with_reducible refine wpQuiet_step (fun K hK => ?_))
             go_simp
             first
               | ((with_reducible refine hK _ ?_); clear hK K)
               | (apply Exists.intro
                  (with_reducible refine ⟨fun n => ?_, hK _ ?_⟩)
                  ((go_at_call 32; exact held_calls (HS.out _ (HB2.out.trans (n.below.mono HB2.out.size)))))
                  clear hK K))
          with_reducible refine wpQuiet_nil ?_
          intro w5 hw2
          clear hcH
          obtain ⟨⟨_, hb5⟩, rfl⟩ := hw2
          (try dsimp only)
          obtain ⟨hc5, hf5⟩ := bcell hb5
          have hz5 := hb5.size
          (try simp at hz5)
          have HT5 := Lib.hid (HT2.out.below hb5)
          have z2 : w5.cell? ⟨b, 2, none⟩ = _ := (hc5 b 2 hbl2).trans y2
          have z0 : w5.cell? ⟨q, j * 3, none⟩ = _ := (hc5 q (j * 3) hq2).trans e0
          have z6 := HT5.out.row.cell 6
          dsimp only [List.getElem?_cons_zero, List.getElem?_cons_succ] at z6
          have u6 := HT5.out.row.frozen 6
          have u0 := HT5.out.po.frozenAt (j * 3)
          have HB5 := Lib.hid (HB2.out.trans (hb5.mono HB2.out.size))
          clear hc5 hf5 hb5 y1 y2 e0 e1
          go_wp2
          go_ret
          have h9 := (HT5.out.pset (v := .int .i64 (p.t - n)) (y := ⟨p.t - n, p.la, p.br⟩) rfl Hp.out (r := 0) (by decide) rfl).rset (s' := { s with P := s.P.set j ⟨p.t - n, p.la, p.br⟩, ca := s.ca + 1 }) 6 (.int .i64 (s.ca + 1)) rfl rfl rfl rfl
          exact ⟨rfl, h9, ((Only.of_below HB5.out).setCell (p := ⟨q, j * 3, none⟩) (.inl (List.mem_cons_of_mem _ (List.mem_singleton.2 rfl))) _).setCell (p := ⟨b, 6, none⟩) (.inl (List.mem_cons_self ..)) _⟩
        · have k3 : ¬ p.t - n < g.mn := by omega
          go_enter Tryz.func10, Tryz.ntmps10
          go_wp2_with (first
            | (go_at_call 29; (with_reducible refine (made_yes b _ c0).mono ?_); rintro e w1 ⟨rfl, rfl⟩)
            | (go_at_call 30; (with_reducible refine (HL.out _ (by (repeat' (first | with_reducible exact Below.refl _ _ | with_reducible assumption | with_reducible refine Below.drew ?_ | with_reducible refine below_drewN' ?_ _ | with_reducible refine Below.alloc ?_ ?_ _ | with_reducible refine Below.setCell ?_ ?_ _ | with_reducible refine below_step (by assumption) ?_ ?_ | omega | (simp; done) | (simp; omega))))).mono ?_); rintro e w2 ⟨rfl, hb2⟩; have HB2 := Lib.hid hb2; have hz2 := hb2.size; obtain ⟨hc2, hf2⟩ := bcell hb2))
          have HT2 := Lib.hid (Hh.out.below HB2.out)
          have y1 : w2.cell? ⟨b, 1, none⟩ = _ := (hc2 b 1 hbl).trans c1
          have y2 : w2.cell? ⟨b, 2, none⟩ = _ := (hc2 b 2 hbl).trans c2
          have e0 : w2.cell? ⟨q, j * 3, none⟩ = _ := (hc2 q (j * 3) hq).trans d0
          have e1 : w2.cell? ⟨gb, go + j * 15 + 1, none⟩ = _ := (hc2 gb (go + j * 15 + 1) hgb).trans x1
          have hbl2 : b < w2.heap.size := HT2.out.row.lt
          have hq2 : q < w2.heap.size := (own_lt HT2.out.po rfl).2
          have hg2 : gb < w2.heap.size := Nat.lt_of_lt_of_le hgb hz2
          clear c1 c2 d0 x1 hc2 hf2 hb2 hz2
          have hcH := held_cell
          refine region_below (by kernel_rfl) (by kernel_rfl) ?_
          repeat
            ((with_reducible refine wpQuiet_step (fun K hK => ?_))
             go_simp
             first
               | ((with_reducible refine hK _ ?_); clear hK K)
               | (apply Exists.intro
                  (with_reducible refine ⟨fun n => ?_, hK _ ?_⟩)
                  ((go_at_call 32; exact held_calls (HS.out _ (HB2.out.trans (n.below.mono HB2.out.size)))))
                  clear hK K))
          with_reducible refine wpQuiet_nil ?_
          intro w5 hw2
          clear hcH
          obtain ⟨⟨_, hb5⟩, rfl⟩ := hw2
          (try dsimp only)
          obtain ⟨hc5, hf5⟩ := bcell hb5
          have hz5 := hb5.size
          (try simp at hz5)
          have HT5 := Lib.hid (HT2.out.below hb5)
          have z2 : w5.cell? ⟨b, 2, none⟩ = _ := (hc5 b 2 hbl2).trans y2
          have z0 : w5.cell? ⟨q, j * 3, none⟩ = _ := (hc5 q (j * 3) hq2).trans e0
          have z6 := HT5.out.row.cell 6
          dsimp only [List.getElem?_cons_zero, List.getElem?_cons_succ] at z6
          have u6 := HT5.out.row.frozen 6
          have u0 := HT5.out.po.frozenAt (j * 3)
          have HB5 := Lib.hid (HB2.out.trans (hb5.mono HB2.out.size))
          clear hc5 hf5 hb5 y1 y2 e0 e1
          go_wp2
          go_ret
          have h9 := (HT5.out.pset (v := .int .i64 (p.t - n)) (y := ⟨p.t - n, p.la, p.br⟩) rfl Hp.out (r := 0) (by decide) rfl).rset (s' := { s with P := s.P.set j ⟨p.t - n, p.la, p.br⟩, ca := s.ca + 1 }) 6 (.int .i64 (s.ca + 1)) rfl rfl rfl rfl
          exact ⟨rfl, h9, ((Only.of_below HB5.out).setCell (p := ⟨q, j * 3, none⟩) (.inl (List.mem_cons_of_mem _ (List.mem_singleton.2 rfl))) _).setCell (p := ⟨b, 6, none⟩) (.inl (List.mem_cons_self ..)) _⟩
theorem set_self {α : Type} {l : List α} {j : Nat} {x : α} (h : l[j]? = some x) : l.set j x = l := by
  obtain ⟨hl, he⟩ := List.getElem?_eq_some_iff.1 h
  rw [← he]
  exact List.set_getElem_self hl
set_option maxRecDepth 100000 in
set_option maxHeartbeats 8000000 in
theorem del_any (base b : Nat) (G : List Gp) (s : CS) (gv pv lv : Value) (key : ByteArray) (w : World) (h : CT w base b G s gv pv lv) (m : Nat) (hO : s.Ok m) (hm : m ≤ 100) :
    Calls Tryz.prog 9 #[.pointer (some ⟨b, 0, none⟩), .string key] w fun e w' => e = .returned (.int .i64 (s.del key).2) ∧ CT w' base b G (s.del key).1 gv pv lv ∧ Only (blocksOf b pv lv) w w' := by
  have hz : G.length = s.G.length := by rw [← h.gk, List.length_map]
  have hG16 := hO.g16
  have hL9 : s.L.length ≤ 1000000 := by have := hO.lb; omega
  have c0 := h.row.cell 0
  have c1 := h.row.cell 1
  have c2 := h.row.cell 2
  have c3 := h.row.cell 3
  dsimp only [List.getElem?_cons_zero, List.getElem?_cons_succ] at c0 c1 c2 c3
  have HF := Lib.hid (fun V (hb : Below w.heap.size w V) => cfind_any base b G s gv pv lv key V (h.below hb) hL9)
  have HL := Lib.hid (fun (t : ByteArray) V (hb : Below w.heap.size w V) => place_any base b G s gv pv lv t V (h.below hb) (by unfold maxLen; omega))
  obtain ⟨a, k, rfl, hR⟩ := h.pools
  obtain ⟨ga, gk, rfl, hGr⟩ := h.groups
  obtain ⟨la, lk, rfl, hI⟩ := h.insts
  have hbl := h.row.lt
  have HR := Lib.hid hR
  have HGr := Lib.hid hGr
  have HI := Lib.hid hI
  have Hh := Lib.hid h
  have hgk := h.gk
  have hP := hO.ln
  obtain ⟨N, hN⟩ : ∃ N, s.P.length = N := ⟨_, rfl⟩
  have HN := Lib.hid hN
  obtain ⟨M, hM⟩ : ∃ M, s.L.length = M := ⟨_, rfl⟩
  have HM := Lib.hid hM
  have HO := Lib.hid hO
  rw [hN] at c2 hP
  rw [hM] at c3
  clear h hR hN hO hGr hI
  cases hf : fndI s.L key with
  | none =>
    have hT : s.del key = (s, 16) := by unfold CS.del; rw [hf]
    rw [plI_none hf] at HF
    rw [hT]
    clear hf hgk
    go_enter Tryz.func9, Tryz.ntmps9
    go_wp2_with (first
      | (go_at_call 29; (with_reducible refine (made_yes b _ c0).mono ?_); rintro e w1 ⟨rfl, rfl⟩)
      | (go_at_call 31; (with_reducible refine (HF.out _ (by (repeat' (first | with_reducible exact Below.refl _ _ | with_reducible assumption | with_reducible refine Below.drew ?_ | with_reducible refine below_drewN' ?_ _ | with_reducible refine Below.alloc ?_ ?_ _ | with_reducible refine Below.setCell ?_ ?_ _ | with_reducible refine below_step (by assumption) ?_ ?_ | omega | (simp; done) | (simp; omega))))).mono ?_); rintro e w2 ⟨rfl, hb2⟩; have HB2 := Lib.hid hb2))
    go_ret
    exact ⟨rfl, Hh.out.below HB2.out, Only.of_below HB2.out⟩
  | some i =>
    obtain ⟨x, hx, hxk⟩ := fndI_lt hf
    clear hxk
    have hiM : i < M := by have := lt_at hx; omega
    obtain ⟨⟨j, hfj⟩, _⟩ := HO.out.ib x (List.mem_of_getElem? hx)
    obtain ⟨g, hg, _⟩ := fndK_lt hfj
    have hjn : j < N := by have := lt_at hg; omega
    obtain ⟨p, hp⟩ := mem_at (l := s.P) (k := j) (by rw [HN.out]; exact hjn)
    obtain ⟨g', hg'⟩ := mem_at (l := G) (k := j) (by omega)
    have hgg : gkOf g' = g := by
      have h9 : (G.map gkOf)[j]? = some (gkOf g') := by rw [List.getElem?_map, hg']; rfl
      rw [hgk, hg] at h9
      exact (Option.some.inj h9).symm
    have hA : findA G x.gp 0 = (j : Int) := findA_some (by rw [hgk]; exact hfj)
    rw [plI_some hf] at HF
    have HL := Lib.hid (HL.out x.gp)
    rw [hA] at HL
    have hT : s.del key = if x.st = 3 then (s, 22) else if x.st = 2 ∧ p.t ≤ g.mn then (s, 20) else ({ s with L := s.L.set i { x with st := 3, lf := 1 }, P := s.P.set j ⟨max g.mn (p.t - 1), p.la, p.br⟩, ca := s.ca + 1 }, 0) := by
      unfold CS.del
      rw [hf]
      dsimp only
      rw [hx]
      dsimp only
      rw [hfj]
      dsimp only
      rw [hg, hp]
    obtain ⟨q, rfl, _, hq, hc⟩ := HR.out (by rw [HN.out]; omega)
    obtain ⟨d0, _, _⟩ := hc j p hp
    obtain ⟨gb, go, rfl, hgb, hgc⟩ := HGr.out (by omega)
    obtain ⟨_, x1, _⟩ := grow_cells (hgc j g' hg')
    have hmn : g'.mn = g.mn := by rw [← hgg]; rfl
    rw [hmn] at x1
    obtain ⟨ql, rfl, _, hql, hlc⟩ := HI.out (by rw [HM.out]; omega)
    obtain ⟨_, v1, v2, v3, _⟩ := hlc i x hx
    obtain ⟨t0, t1, _, _⟩ := HO.out.tb j g p hg hp
    obtain ⟨b0, b1, b2, b3, _⟩ := HO.out.gb g (List.mem_of_getElem? hg)
    obtain ⟨_, _, n0, n1⟩ := HO.out.nb
    have k1 : decide ((i : Int) < 0) = false := decide_eq_false (by omega)
    have Hp := Lib.hid hp
    have Hx := Lib.hid hx
    have hbq : b ≠ q := (blk_ty Hh.out.row).ne (own_ty Hh.out.po rfl) (by decide)
    have hbl' : b ≠ ql := (blk_ty Hh.out.row).ne (own_ty Hh.out.lo rfl) (by decide)
    have hqq : q ≠ ql := (own_ty Hh.out.po rfl).ne (own_ty Hh.out.lo rfl) (by decide)
    rw [hT]
    have hjG : j < G.length := by omega
    have hji : (j : Int) < (N : Int) := by omega
    have hjI : (j : Int) < (G.length : Int) := by omega
    have hj0 : (0 : Int) ≤ (j : Int) := by omega
    have hii : (i : Int) < (M : Int) := by omega
    have hi0 : (0 : Int) ≤ (i : Int) := by omega
    have HXG := Lib.hid (show ∃ z, x.gp = z from ⟨_, rfl⟩)
    clear hf hfj hgk hg hp hc hgc hT hgg hg' hz hP hx hlc hA hmn hM
    by_cases h3 : x.st = 3
    · have k3 : (x.st == 3) = true := by rw [h3]; rfl
      rw [if_pos h3]
      clear h3
      cases hl : decide (p.t ≤ g.mn)
      all_goals
        go_enter Tryz.func9, Tryz.ntmps9
        go_wp2_with (first
          | (go_at_call 29; (with_reducible refine (made_yes b _ c0).mono ?_); rintro e w1 ⟨rfl, rfl⟩)
          | (go_at_call 31; (with_reducible refine (HF.out _ (by (repeat' (first | with_reducible exact Below.refl _ _ | with_reducible assumption | with_reducible refine Below.drew ?_ | with_reducible refine below_drewN' ?_ _ | with_reducible refine Below.alloc ?_ ?_ _ | with_reducible refine Below.setCell ?_ ?_ _ | with_reducible refine below_step (by assumption) ?_ ?_ | omega | (simp; done) | (simp; omega))))).mono ?_); rintro e w2 ⟨rfl, hb2⟩; have HB2 := Lib.hid hb2; have hz2 := hb2.size; obtain ⟨hc2, hf2⟩ := bcell hb2)
          | (go_at_call 30; (with_reducible refine (HL.out _ HB2.out).mono ?_); rintro e w3 ⟨rfl, hb3⟩; have HB3 := Lib.hid (HB2.out.trans (hb3.mono HB2.out.size)); clear hb3))
        have HT2 := Lib.hid (Hh.out.below HB3.out)
        have hz3 := HB3.out.size
        obtain ⟨hc3, hf3⟩ := bcell HB3.out
        have y1 : w3.cell? ⟨b, 1, none⟩ = _ := (hc3 b 1 hbl).trans c1
        have y2 : w3.cell? ⟨b, 2, none⟩ = _ := (hc3 b 2 hbl).trans c2
        have e0 : w3.cell? ⟨q, j * 3, none⟩ = _ := (hc3 q (j * 3) hq).trans d0
        have e1 : w3.cell? ⟨gb, go + j * 15 + 1, none⟩ = _ := (hc3 gb (go + j * 15 + 1) hgb).trans x1
        have e2 : w3.cell? ⟨ql, i * 5 + 2, none⟩ = _ := (hc3 ql (i * 5 + 2) hql).trans v2
        have e3 : w3.cell? ⟨ql, i * 5 + 3, none⟩ = _ := (hc3 ql (i * 5 + 3) hql).trans v3
        have hbl2 : b < w3.heap.size := HT2.out.row.lt
        have hq2 : q < w3.heap.size := (own_lt HT2.out.po rfl).2
        have hql2 : ql < w3.heap.size := (own_lt HT2.out.lo rfl).2
        have hg2 : gb < w3.heap.size := Nat.lt_of_lt_of_le hgb hz3
        clear c1 c2 d0 x1 v1 v2 v3 hc2 hf2 hb2 hz2 hc3 hf3 hz3
        have hcH := held_cell
        refine region_below (by kernel_rfl) (by kernel_rfl) ?_
        repeat
          ((with_reducible refine wpQuiet_step (fun K hK => ?_))
           go_simp
           first
             | ((with_reducible refine hK _ ?_); clear hK K)
             | (apply Exists.intro
                (with_reducible refine ⟨fun n => ?_, hK _ ?_⟩)
                (fail)
                clear hK K))
        with_reducible refine wpQuiet_nil ?_
        intro w5 hw2
        clear hcH
        obtain ⟨⟨_, hb5⟩, rfl⟩ := hw2
        (try dsimp only)
        obtain ⟨hc5, hf5⟩ := bcell hb5
        have hz5 := hb5.size
        (try simp at hz5)
        have HT5 := Lib.hid (HT2.out.below hb5)
        have HB5 := Lib.hid (HB3.out.trans (hb5.mono HB3.out.size))
        have z2 : w5.cell? ⟨ql, i * 5 + 2, none⟩ = _ := (hc5 ql (i * 5 + 2) hql2).trans e2
        have z3 : w5.cell? ⟨ql, i * 5 + 3, none⟩ = _ := (hc5 ql (i * 5 + 3) hql2).trans e3
        have hbl5 := HT5.out.row.lt
        have hql5 := (own_lt HT5.out.lo rfl).2
        have hq5 := (own_lt HT5.out.po rfl).2
        go_wp2
        go_ret
        exact ⟨rfl, HT5.out, Only.of_below HB5.out⟩
    · have k3 : (x.st == 3) = false := by simpa using h3
      rw [if_neg h3]
      clear h3
      by_cases h2 : x.st = 2 ∧ p.t ≤ g.mn
      · have k2 : (x.st == 2) = true := by rw [h2.1]; rfl
        have hl : decide (p.t ≤ g.mn) = true := decide_eq_true h2.2
        rw [if_pos h2]
        clear h2
        go_enter Tryz.func9, Tryz.ntmps9
        go_wp2_with (first
          | (go_at_call 29; (with_reducible refine (made_yes b _ c0).mono ?_); rintro e w1 ⟨rfl, rfl⟩)
          | (go_at_call 31; (with_reducible refine (HF.out _ (by (repeat' (first | with_reducible exact Below.refl _ _ | with_reducible assumption | with_reducible refine Below.drew ?_ | with_reducible refine below_drewN' ?_ _ | with_reducible refine Below.alloc ?_ ?_ _ | with_reducible refine Below.setCell ?_ ?_ _ | with_reducible refine below_step (by assumption) ?_ ?_ | omega | (simp; done) | (simp; omega))))).mono ?_); rintro e w2 ⟨rfl, hb2⟩; have HB2 := Lib.hid hb2; have hz2 := hb2.size; obtain ⟨hc2, hf2⟩ := bcell hb2)
          | (go_at_call 30; (with_reducible refine (HL.out _ HB2.out).mono ?_); rintro e w3 ⟨rfl, hb3⟩; have HB3 := Lib.hid (HB2.out.trans (hb3.mono HB2.out.size)); clear hb3))
        have HT2 := Lib.hid (Hh.out.below HB3.out)
        have hz3 := HB3.out.size
        obtain ⟨hc3, hf3⟩ := bcell HB3.out
        have y1 : w3.cell? ⟨b, 1, none⟩ = _ := (hc3 b 1 hbl).trans c1
        have y2 : w3.cell? ⟨b, 2, none⟩ = _ := (hc3 b 2 hbl).trans c2
        have e0 : w3.cell? ⟨q, j * 3, none⟩ = _ := (hc3 q (j * 3) hq).trans d0
        have e1 : w3.cell? ⟨gb, go + j * 15 + 1, none⟩ = _ := (hc3 gb (go + j * 15 + 1) hgb).trans x1
        have e2 : w3.cell? ⟨ql, i * 5 + 2, none⟩ = _ := (hc3 ql (i * 5 + 2) hql).trans v2
        have e3 : w3.cell? ⟨ql, i * 5 + 3, none⟩ = _ := (hc3 ql (i * 5 + 3) hql).trans v3
        have hbl2 : b < w3.heap.size := HT2.out.row.lt
        have hq2 : q < w3.heap.size := (own_lt HT2.out.po rfl).2
        have hql2 : ql < w3.heap.size := (own_lt HT2.out.lo rfl).2
        have hg2 : gb < w3.heap.size := Nat.lt_of_lt_of_le hgb hz3
        clear c1 c2 d0 x1 v1 v2 v3 hc2 hf2 hb2 hz2 hc3 hf3 hz3
        have hcH := held_cell
        refine region_below (by kernel_rfl) (by kernel_rfl) ?_
        repeat
          ((with_reducible refine wpQuiet_step (fun K hK => ?_))
           go_simp
           first
             | ((with_reducible refine hK _ ?_); clear hK K)
             | (apply Exists.intro
                (with_reducible refine ⟨fun n => ?_, hK _ ?_⟩)
                (fail)
                clear hK K))
        with_reducible refine wpQuiet_nil ?_
        intro w5 hw2
        clear hcH
        obtain ⟨⟨_, hb5⟩, rfl⟩ := hw2
        (try dsimp only)
        obtain ⟨hc5, hf5⟩ := bcell hb5
        have hz5 := hb5.size
        (try simp at hz5)
        have HT5 := Lib.hid (HT2.out.below hb5)
        have HB5 := Lib.hid (HB3.out.trans (hb5.mono HB3.out.size))
        have z2 : w5.cell? ⟨ql, i * 5 + 2, none⟩ = _ := (hc5 ql (i * 5 + 2) hql2).trans e2
        have z3 : w5.cell? ⟨ql, i * 5 + 3, none⟩ = _ := (hc5 ql (i * 5 + 3) hql2).trans e3
        have hbl5 := HT5.out.row.lt
        have hql5 := (own_lt HT5.out.lo rfl).2
        have hq5 := (own_lt HT5.out.po rfl).2
        go_wp2
        go_ret
        exact ⟨rfl, HT5.out, Only.of_below HB5.out⟩
      · rw [if_neg h2]
        have hw2 : IntKind.i64.wrap (s.ca + 1) = s.ca + 1 := cwrap_in (by omega) (by omega)
        have hw3 : IntKind.i64.wrap (p.t - 1) = p.t - 1 := cwrap_in (by omega) (by omega)
        have oI : ∀ (W : World), Only (blocksOf b (Value.slice (some ⟨q, 0, none⟩) s.P.length k) (Value.slice (some ⟨ql, 0, none⟩) s.L.length lk)) w W → ∀ (o : Nat) (v : Value), Only (blocksOf b (Value.slice (some ⟨q, 0, none⟩) s.P.length k) (Value.slice (some ⟨ql, 0, none⟩) s.L.length lk)) w (W.setCell ⟨ql, o, none⟩ v) := fun W h o v => h.setCell (p := ⟨ql, o, none⟩) (.inl (by simp [blocksOf, Value.ownBlock])) v
        have oP : ∀ (W : World), Only (blocksOf b (Value.slice (some ⟨q, 0, none⟩) s.P.length k) (Value.slice (some ⟨ql, 0, none⟩) s.L.length lk)) w W → ∀ (o : Nat) (v : Value), Only (blocksOf b (Value.slice (some ⟨q, 0, none⟩) s.P.length k) (Value.slice (some ⟨ql, 0, none⟩) s.L.length lk)) w (W.setCell ⟨q, o, none⟩ v) := fun W h o v => h.setCell (p := ⟨q, o, none⟩) (.inl (by simp [blocksOf, Value.ownBlock])) v
        have oB : ∀ (W : World), Only (blocksOf b (Value.slice (some ⟨q, 0, none⟩) s.P.length k) (Value.slice (some ⟨ql, 0, none⟩) s.L.length lk)) w W → ∀ (o : Nat) (v : Value), Only (blocksOf b (Value.slice (some ⟨q, 0, none⟩) s.P.length k) (Value.slice (some ⟨ql, 0, none⟩) s.L.length lk)) w (W.setCell ⟨b, o, none⟩ v) := fun W h o v => h.setCell (p := ⟨b, o, none⟩) (.inl (by simp [blocksOf])) v
        have OI := Lib.hid oI
        have OP := Lib.hid oP
        have OB := Lib.hid oB
        clear oI oP oB
        by_cases hle : p.t ≤ g.mn
        · have hl : decide (p.t ≤ g.mn) = true := decide_eq_true hle
          have k2 : (x.st == 2) = false := by
            have : ¬ x.st = 2 := fun e => h2 ⟨e, hle⟩
            simpa using this
          have hmax : max g.mn (p.t - 1) = p.t := by omega
          rw [hmax]
          have hself : s.P.set j ⟨p.t, p.la, p.br⟩ = s.P := set_self Hp.out
          rw [hself]
          clear h2 hle hmax hself
          go_enter Tryz.func9, Tryz.ntmps9
          go_wp2_with (first
            | (go_at_call 29; (with_reducible refine (made_yes b _ c0).mono ?_); rintro e w1 ⟨rfl, rfl⟩)
            | (go_at_call 31; (with_reducible refine (HF.out _ (by (repeat' (first | with_reducible exact Below.refl _ _ | with_reducible assumption | with_reducible refine Below.drew ?_ | with_reducible refine below_drewN' ?_ _ | with_reducible refine Below.alloc ?_ ?_ _ | with_reducible refine Below.setCell ?_ ?_ _ | with_reducible refine below_step (by assumption) ?_ ?_ | omega | (simp; done) | (simp; omega))))).mono ?_); rintro e w2 ⟨rfl, hb2⟩; have HB2 := Lib.hid hb2; have hz2 := hb2.size; obtain ⟨hc2, hf2⟩ := bcell hb2)
            | (go_at_call 30; (with_reducible refine (HL.out _ HB2.out).mono ?_); rintro e w3 ⟨rfl, hb3⟩; have HB3 := Lib.hid (HB2.out.trans (hb3.mono HB2.out.size)); clear hb3))
          have HT2 := Lib.hid (Hh.out.below HB3.out)
          have hz3 := HB3.out.size
          obtain ⟨hc3, hf3⟩ := bcell HB3.out
          have y1 : w3.cell? ⟨b, 1, none⟩ = _ := (hc3 b 1 hbl).trans c1
          have y2 : w3.cell? ⟨b, 2, none⟩ = _ := (hc3 b 2 hbl).trans c2
          have e0 : w3.cell? ⟨q, j * 3, none⟩ = _ := (hc3 q (j * 3) hq).trans d0
          have e1 : w3.cell? ⟨gb, go + j * 15 + 1, none⟩ = _ := (hc3 gb (go + j * 15 + 1) hgb).trans x1
          have e2 : w3.cell? ⟨ql, i * 5 + 2, none⟩ = _ := (hc3 ql (i * 5 + 2) hql).trans v2
          have e3 : w3.cell? ⟨ql, i * 5 + 3, none⟩ = _ := (hc3 ql (i * 5 + 3) hql).trans v3
          have hbl2 : b < w3.heap.size := HT2.out.row.lt
          have hq2 : q < w3.heap.size := (own_lt HT2.out.po rfl).2
          have hql2 : ql < w3.heap.size := (own_lt HT2.out.lo rfl).2
          have hg2 : gb < w3.heap.size := Nat.lt_of_lt_of_le hgb hz3
          clear c1 c2 d0 x1 v1 v2 v3 hc2 hf2 hb2 hz2 hc3 hf3 hz3
          have hcH := held_cell
          refine region_below (by kernel_rfl) (by kernel_rfl) ?_
          repeat
            ((with_reducible refine wpQuiet_step (fun K hK => ?_))
             go_simp
             first
               | ((with_reducible refine hK _ ?_); clear hK K)
               | (apply Exists.intro
                  (with_reducible refine ⟨fun n => ?_, hK _ ?_⟩)
                  (fail)
                  clear hK K))
          with_reducible refine wpQuiet_nil ?_
          intro w5 hw2
          clear hcH
          obtain ⟨⟨_, hb5⟩, rfl⟩ := hw2
          (try dsimp only)
          obtain ⟨hc5, hf5⟩ := bcell hb5
          have hz5 := hb5.size
          (try simp at hz5)
          have HT5 := Lib.hid (HT2.out.below hb5)
          have HB5 := Lib.hid (HB3.out.trans (hb5.mono HB3.out.size))
          have z2 : w5.cell? ⟨ql, i * 5 + 2, none⟩ = _ := (hc5 ql (i * 5 + 2) hql2).trans e2
          have z3 : w5.cell? ⟨ql, i * 5 + 3, none⟩ = _ := (hc5 ql (i * 5 + 3) hql2).trans e3
          have hbl5 := HT5.out.row.lt
          have hql5 := (own_lt HT5.out.lo rfl).2
          have hq5 := (own_lt HT5.out.po rfl).2
          have zb : w5.cell? ⟨b, 2, none⟩ = _ := (hc5 b 2 hbl2).trans y2
          have zq : w5.cell? ⟨q, j * 3, none⟩ = _ := (hc5 q (j * 3) hq2).trans e0
          have z6 := HT5.out.row.cell 6
          dsimp only [List.getElem?_cons_zero, List.getElem?_cons_succ] at z6
          have u6 := HT5.out.row.frozen 6
          have u0 := HT5.out.po.frozenAt (j * 3)
          have u2 := HT5.out.lo.frozenAt (i * 5 + 2)
          have u3 := HT5.out.lo.frozenAt (i * 5 + 3)
          clear hc5 hf5 hb5 y1 y2 e0 e1 e2 e3
          go_wp2
          go_ret
          have hiM' : i < s.L.length := by rw [HM.out]; exact hiM
          have h8 := (HT5.out.iset (v := .int .i64 3) (y := { x with st := 3 }) rfl Hx.out (r := 2) (by decide) rfl).iset (j := i) (x := { x with st := 3 }) (y := { x with st := 3, lf := 1 }) (v := .int .i64 1) (r := 3) rfl (by dsimp only; rw [List.getElem?_set_self hiM']) (by decide) rfl
          dsimp only at h8
          rw [list_set_same] at h8
          have h9 := h8.rset (s' := { s with L := s.L.set i { x with st := 3, lf := 1 }, ca := s.ca + 1 }) 6 (.int .i64 (s.ca + 1)) rfl rfl rfl rfl
          exact ⟨rfl, h9, OB.out _ (OI.out _ (OI.out _ (Only.of_below HB5.out) _ _) _ _) _ _⟩
        · have hl : decide (p.t ≤ g.mn) = false := decide_eq_false hle
          have hmax : max g.mn (p.t - 1) = p.t - 1 := by omega
          rw [hmax]
          clear h2 hle hmax
          cases k2 : (x.st == 2)
          all_goals
            go_enter Tryz.func9, Tryz.ntmps9
            go_wp2_with (first
              | (go_at_call 29; (with_reducible refine (made_yes b _ c0).mono ?_); rintro e w1 ⟨rfl, rfl⟩)
              | (go_at_call 31; (with_reducible refine (HF.out _ (by (repeat' (first | with_reducible exact Below.refl _ _ | with_reducible assumption | with_reducible refine Below.drew ?_ | with_reducible refine below_drewN' ?_ _ | with_reducible refine Below.alloc ?_ ?_ _ | with_reducible refine Below.setCell ?_ ?_ _ | with_reducible refine below_step (by assumption) ?_ ?_ | omega | (simp; done) | (simp; omega))))).mono ?_); rintro e w2 ⟨rfl, hb2⟩; have HB2 := Lib.hid hb2; have hz2 := hb2.size; obtain ⟨hc2, hf2⟩ := bcell hb2)
              | (go_at_call 30; (with_reducible refine (HL.out _ HB2.out).mono ?_); rintro e w3 ⟨rfl, hb3⟩; have HB3 := Lib.hid (HB2.out.trans (hb3.mono HB2.out.size)); clear hb3))
            have HT2 := Lib.hid (Hh.out.below HB3.out)
            have hz3 := HB3.out.size
            obtain ⟨hc3, hf3⟩ := bcell HB3.out
            have y1 : w3.cell? ⟨b, 1, none⟩ = _ := (hc3 b 1 hbl).trans c1
            have y2 : w3.cell? ⟨b, 2, none⟩ = _ := (hc3 b 2 hbl).trans c2
            have e0 : w3.cell? ⟨q, j * 3, none⟩ = _ := (hc3 q (j * 3) hq).trans d0
            have e1 : w3.cell? ⟨gb, go + j * 15 + 1, none⟩ = _ := (hc3 gb (go + j * 15 + 1) hgb).trans x1
            have e2 : w3.cell? ⟨ql, i * 5 + 2, none⟩ = _ := (hc3 ql (i * 5 + 2) hql).trans v2
            have e3 : w3.cell? ⟨ql, i * 5 + 3, none⟩ = _ := (hc3 ql (i * 5 + 3) hql).trans v3
            have hbl2 : b < w3.heap.size := HT2.out.row.lt
            have hq2 : q < w3.heap.size := (own_lt HT2.out.po rfl).2
            have hql2 : ql < w3.heap.size := (own_lt HT2.out.lo rfl).2
            have hg2 : gb < w3.heap.size := Nat.lt_of_lt_of_le hgb hz3
            clear c1 c2 d0 x1 v1 v2 v3 hc2 hf2 hb2 hz2 hc3 hf3 hz3
            have hcH := held_cell
            refine region_below (by kernel_rfl) (by kernel_rfl) ?_
            repeat
              ((with_reducible refine wpQuiet_step (fun K hK => ?_))
               go_simp
               first
                 | ((with_reducible refine hK _ ?_); clear hK K)
                 | (apply Exists.intro
                    (with_reducible refine ⟨fun n => ?_, hK _ ?_⟩)
                    (fail)
                    clear hK K))
            with_reducible refine wpQuiet_nil ?_
            intro w5 hw2
            clear hcH
            obtain ⟨⟨_, hb5⟩, rfl⟩ := hw2
            (try dsimp only)
            obtain ⟨hc5, hf5⟩ := bcell hb5
            have hz5 := hb5.size
            (try simp at hz5)
            have HT5 := Lib.hid (HT2.out.below hb5)
            have HB5 := Lib.hid (HB3.out.trans (hb5.mono HB3.out.size))
            have z2 : w5.cell? ⟨ql, i * 5 + 2, none⟩ = _ := (hc5 ql (i * 5 + 2) hql2).trans e2
            have z3 : w5.cell? ⟨ql, i * 5 + 3, none⟩ = _ := (hc5 ql (i * 5 + 3) hql2).trans e3
            have hbl5 := HT5.out.row.lt
            have hql5 := (own_lt HT5.out.lo rfl).2
            have hq5 := (own_lt HT5.out.po rfl).2
            have zb : w5.cell? ⟨b, 2, none⟩ = _ := (hc5 b 2 hbl2).trans y2
            have zq : w5.cell? ⟨q, j * 3, none⟩ = _ := (hc5 q (j * 3) hq2).trans e0
            have z6 := HT5.out.row.cell 6
            dsimp only [List.getElem?_cons_zero, List.getElem?_cons_succ] at z6
            have u6 := HT5.out.row.frozen 6
            have u0 := HT5.out.po.frozenAt (j * 3)
            have u2 := HT5.out.lo.frozenAt (i * 5 + 2)
            have u3 := HT5.out.lo.frozenAt (i * 5 + 3)
            clear hc5 hf5 hb5 y1 y2 e0 e1 e2 e3
            go_wp2
            go_ret
            have hiM' : i < s.L.length := by rw [HM.out]; exact hiM
            have h8 := (HT5.out.iset (v := .int .i64 3) (y := { x with st := 3 }) rfl Hx.out (r := 2) (by decide) rfl).iset (j := i) (x := { x with st := 3 }) (y := { x with st := 3, lf := 1 }) (v := .int .i64 1) (r := 3) rfl (by dsimp only; rw [List.getElem?_set_self hiM']) (by decide) rfl
            dsimp only at h8
            rw [list_set_same] at h8
            have h9 := (h8.pset (v := .int .i64 (p.t - 1)) (y := ⟨p.t - 1, p.la, p.br⟩) rfl Hp.out (r := 0) (by decide) rfl).rset (s' := { s with L := s.L.set i { x with st := 3, lf := 1 }, P := s.P.set j ⟨p.t - 1, p.la, p.br⟩, ca := s.ca + 1 }) 6 (.int .i64 (s.ca + 1)) rfl rfl rfl rfl
            exact ⟨rfl, h9, OB.out _ (OP.out _ (OI.out _ (OI.out _ (Only.of_below HB5.out) _ _) _ _) _ _) _ _⟩
end Go.Proofs.YtmkdfcggjlhcpaaGreatDoor
namespace Go.Proofs.YtmkdfcggjlhcpaaGreatDoor
open Go.RowKit Go.Shelf
set_option linter.unusedVariables false
def laysM171_ren : Go.Shelf.Ren := ⟨fun | 171 => 76 | 243 => 92 | 246 => 101 | 283 => 106 | 284 => 107 | 285 => 108 | 286 => 109 | 129 => 111 | 317 => 110 | 318 => 112 | 319 => 113 | 320 => 114 | 337 => 115 | 338 => 116 | n => n, fun | 3 => 3 | 9 => 9 | 2 => 2 | 4 => 4 | 171 => 156 | 0 => 0 | 53 => 157 | 37 => 160 | 5 => 5 | 173 => 161 | 212 => 164 | 51 => 165 | 20 => 20 | 213 => 166 | 46 => 167 | 232 => 170 | 233 => 171 | n => n, fun | 17 => 0 | 18 => 1 | 19 => 2 | n => n⟩
theorem laysM171 : Go.Proofs.LaysM.n171 Tryz.prog laysM171_ren := {
  mixed := by kernel_rfl
  f129 := Tryz.func111.trans (congrArg some (by kernel_rfl))
  f171 := Tryz.func76.trans (congrArg some (by kernel_rfl))
  f243 := Tryz.func92.trans (congrArg some (by kernel_rfl))
  f246 := Tryz.func101.trans (congrArg some (by kernel_rfl))
  f283 := Tryz.func106.trans (congrArg some (by kernel_rfl))
  f284 := Tryz.func107.trans (congrArg some (by kernel_rfl))
  f285 := Tryz.func108.trans (congrArg some (by kernel_rfl))
  f286 := Tryz.func109.trans (congrArg some (by kernel_rfl))
  f317 := Tryz.func110.trans (congrArg some (by kernel_rfl))
  f318 := Tryz.func112.trans (congrArg some (by kernel_rfl))
  f319 := Tryz.func113.trans (congrArg some (by kernel_rfl))
  f320 := Tryz.func114.trans (congrArg some (by kernel_rfl))
  f337 := Tryz.func115.trans (congrArg some (by kernel_rfl))
  f338 := Tryz.func116.trans (congrArg some (by kernel_rfl))
  t0 := Tryz.underlying0
  a0 := Tryz.isAgg0
  z0 := Tryz.sizeOf0
  v0 := Tryz.zeroValue0
  t2 := Tryz.underlying2
  a2 := Tryz.isAgg2
  z2 := Tryz.sizeOf2
  v2 := Tryz.zeroValue2
  t3 := Tryz.underlying3
  a3 := Tryz.isAgg3
  z3 := Tryz.sizeOf3
  v3 := Tryz.zeroValue3
  t4 := Tryz.underlying4
  a4 := Tryz.isAgg4
  z4 := Tryz.sizeOf4
  v4 := Tryz.zeroValue4
  t5 := Tryz.underlying5
  a5 := Tryz.isAgg5
  z5 := Tryz.sizeOf5
  v5 := Tryz.zeroValue5
  t9 := Tryz.underlying9
  a9 := Tryz.isAgg9
  z9 := Tryz.sizeOf9
  v9 := Tryz.zeroValue9
  t20 := Tryz.underlying20
  a20 := Tryz.isAgg20
  z20 := Tryz.sizeOf20
  v20 := Tryz.zeroValue20
  t37 := Tryz.underlying160
  a37 := Tryz.isAgg160
  z37 := Tryz.sizeOf160
  v37 := Tryz.zeroValue160
  t46 := Tryz.underlying167
  a46 := Tryz.isAgg167
  z46 := Tryz.sizeOf167
  v46 := Tryz.zeroValue167
  t51 := Tryz.underlying165
  a51 := Tryz.isAgg165
  z51 := Tryz.sizeOf165
  v51 := Tryz.zeroValue165
  t53 := Tryz.underlying157
  a53 := Tryz.isAgg157
  z53 := Tryz.sizeOf157
  v53 := Tryz.zeroValue157
  t171 := Tryz.underlying156
  a171 := Tryz.isAgg156
  z171 := Tryz.sizeOf156
  v171 := Tryz.zeroValue156
  t173 := Tryz.underlying161
  a173 := Tryz.isAgg161
  z173 := Tryz.sizeOf161
  v173 := Tryz.zeroValue161
  t212 := Tryz.underlying164
  a212 := Tryz.isAgg164
  z212 := Tryz.sizeOf164
  v212 := Tryz.zeroValue164
  t213 := Tryz.underlying166
  a213 := Tryz.isAgg166
  z213 := Tryz.sizeOf166
  t232 := Tryz.underlying170
  a232 := Tryz.isAgg170
  z232 := Tryz.sizeOf170
  v232 := Tryz.zeroValue170
  t233 := Tryz.underlying171
  a233 := Tryz.isAgg171
  z233 := Tryz.sizeOf171
  v233 := Tryz.zeroValue171
  g17 := by kernel_rfl
  g18 := by kernel_rfl
  g19 := by kernel_rfl
  i0 := by kernel_rfl
  i2 := by kernel_rfl
  i3 := by kernel_rfl
  i4 := by kernel_rfl
  i5 := by kernel_rfl
  i9 := by kernel_rfl
  i20 := by kernel_rfl
  i37 := by kernel_rfl
  i46 := by kernel_rfl
  i51 := by kernel_rfl
  i53 := by kernel_rfl
  i171 := by kernel_rfl
  i173 := by kernel_rfl
  i212 := by kernel_rfl
  i232 := by kernel_rfl
  i233 := by kernel_rfl
  m17 := by kernel_rfl
  m18 := by kernel_rfl
  m19 := by kernel_rfl }
def nm10 : String := (Rows.permitTakenRow.laid.map (·.1)).getD 2 ""
def Tab10 (w : World) : Prop := Lib.TabIs Tryz.prog w nm10 .u64 Lib.pow10Tab
theorem Tab10.mono {w w' : World} (h : Tab10 w) (hb : Below w.heap.size w w') : Tab10 w' := Lib.tabBelow_of_tabIs h w' hb
theorem itoa_any (n : Int) (h0 : -9223372036854775808 ≤ n) (h1 : n ≤ 9223372036854775807) (w : World) (hT : Tab10 w) :
    Calls Tryz.prog 76 #[.int .i64 n] w fun e w' => e = .returned (.string ⟨(Lib.itoa n).toArray⟩) ∧ Below w.heap.size w w' :=
  (Any.strconv_Itoa laysM171 n h0 h1 w hT).mono fun e w' ⟨he, k, os, hw⟩ => ⟨he, by rw [hw]; exact below_grown_sl _ _ _ _ (Nat.le_refl _)⟩
end Go.Proofs.YtmkdfcggjlhcpaaGreatDoor
