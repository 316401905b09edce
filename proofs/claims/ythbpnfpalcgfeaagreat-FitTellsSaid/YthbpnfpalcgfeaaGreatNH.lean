/-
  Yards: Used, Left, Zones.
-/
import Derived.Test.YthbpnfpalcgfeaaGreatNF
import Derived.Test.YthbpnfpalcgfeaaGreatResNG
import Derived.Test.YthbpnfpalcgfeaaGreatLate
namespace Go.Proofs.YthbpnfpalcgfeaaGreat
open Go.RowKit
set_option linter.unusedVariables false
set_option linter.unusedSimpArgs false

theorem at_rel {P : Program} {ops : Array Oper} {a : Act} {w : World} {R : Value → World → Prop} {d0 : Option Tmp} {ty : TypeId} {x : Operand} {t : TypeId} {p : String} {af : Array Edge} {g : Option (Nat × Bool)}
    (h : relAt P ops { dst := d0, op := .load ty x, type := t, pos := p, after := af, guard := g } a w R) : relAt P ops { dst := d0, op := .load ty x, type := t, pos := p, after := af, guard := g } a w R := h
/-- A quantity of five. -/
structure R5 where
  r0 : Int
  r1 : Int
  r2 : Int
  r3 : Int
  r4 : Int
def R5.z : R5 := ⟨0, 0, 0, 0, 0⟩
def R5.v (r : R5) : Value := .agg #[.int .i64 r.r0, .int .i64 r.r1, .int .i64 r.r2, .int .i64 r.r3, .int .i64 r.r4]
def R5.l (r : R5) : List Value := [.int .i64 r.r0, .int .i64 r.r1, .int .i64 r.r2, .int .i64 r.r3, .int .i64 r.r4]
def rtP (p : Pd) : Bool := rtB p.n0 p.n1 p.n2 p.n3 p.n4
def addEP (r : R5) (p : Pd) : Int := Rs.addE r.r0 r.r1 r.r2 r.r3 r.r4 p.n0 p.n1 p.n2 p.n3 p.n4
def addP (r : R5) (p : Pd) : R5 := ⟨Rs.sel (addEP r p) (r.r0 + p.n0), Rs.sel (addEP r p) (r.r1 + p.n1), Rs.sel (addEP r p) (r.r2 + p.n2), Rs.sel (addEP r p) (r.r3 + p.n3), Rs.sel (addEP r p) (r.r4 + p.n4)⟩
/-- What they need together. -/
def usB (nm : ByteArray) : List Bd → Int → R5 → Int × R5
  | [], e, r => (e, r)
  | b :: l, e, r => if b.on = nm then (if rtP b.p = true then (if e = 0 then usB nm l (addEP r b.p) (addP r b.p) else usB nm l e r) else (12, R5.z)) else usB nm l e r
theorem usB_at {bs : List Bd} {k : Nat} {b : Bd} (h : bs[k]? = some b) (nm : ByteArray) (e : Int) (r : R5) :
    usB nm (bs.drop k) e r = if b.on = nm then (if rtP b.p = true then (if e = 0 then usB nm (bs.drop (k + 1)) (addEP r b.p) (addP r b.p) else usB nm (bs.drop (k + 1)) e r) else (12, R5.z)) else usB nm (bs.drop (k + 1)) e r := by
  obtain ⟨h1, h2⟩ := List.getElem?_eq_some_iff.1 h
  rw [List.drop_eq_getElem_cons h1, h2]
  rfl
def usedY (bs : List Bd) (nm : ByteArray) : Int × R5 := usB nm bs 0 R5.z

set_option maxRecDepth 100000 in
set_option maxHeartbeats 4000000 in
theorem used_any (a : Option Addr) (ka : Nat) (bs : List Bd) (mm : ByteArray) (w : World) (hF : BndL w a bs) (hl : bs.length ≤ 1000000) :
    Calls Tryz.prog 96 #[.slice a bs.length ka, .string mm] w fun e w' => e = .returned (.tuple #[(usedY bs mm).2.v, .int .i64 (usedY bs mm).1]) ∧ Below w.heap.size w w' := by
  obtain ⟨n, hn⟩ : ∃ n, bs.length = n := ⟨_, rfl⟩
  obtain ⟨U, hU⟩ : ∃ U, usedY bs mm = U := ⟨_, rfl⟩
  have HU := Lib.hid hU
  have HN := Lib.hid hn
  have HF := Lib.hid hF
  rw [hn] at hl ⊢
  rw [hU]
  clear hn hF hU
  go_enter Tryz.func96, Tryz.ntmps96
  go_wp2
  go_loopw [7, 11] (fun ve vi wr => ∃ (k : Nat) (e : Int) (r : R5), k ≤ n ∧ ve = .int .i64 e ∧ vi = .int .i64 k ∧ U = usB mm (bs.drop k) e r ∧ Blk wr w.heap.size 25 R5.z.l ∧ Blk wr (w.heap.size + 1) 25 r.l ∧ Below w.heap.size w wr) (fun _ vi _ => n - (intOf vi).toNat)
  case atStart => exact ⟨0, 0, R5.z, Nat.zero_le _, rfl, rfl, HU.out.symm, (Blk.new w 25 R5.z.l).alloc _, by have h9 := Blk.new (w.alloc (.cells R5.z.l.toArray 25)) 25 R5.z.l; rw [World.size_alloc] at h9; exact h9, by (repeat' (first | with_reducible exact Below.refl _ _ | with_reducible assumption | with_reducible refine Below.drew ?_ | with_reducible refine below_drewN' ?_ _ | with_reducible refine Below.alloc ?_ ?_ _ | with_reducible refine Below.setCell ?_ ?_ _ | with_reducible refine below_step (by assumption) ?_ ?_ | omega | (simp; done) | (simp; omega)))⟩
  case round =>
    obtain ⟨k, e, r, hk, rfl, rfl, hE, hX, hY, hB⟩ := hrel
    have HE := Lib.hid hE
    have HX := Lib.hid hX
    have HY := Lib.hid hY
    have HB := Lib.hid hB
    have hbz := hB.size
    by_cases hlt : k < n
    · obtain ⟨m, hm⟩ := mem_at (l := bs) (k := k) (by rw [HN.out]; exact hlt)
      obtain ⟨b, o, rfl, hb, hc⟩ := (HF.out.mono hB) (by rw [HN.out]; omega)
      have c20 : wr.cell? ⟨b, o + k * 21 + 20, none⟩ = some (.string m.on) := hc k m hm 20 (by decide)
      have c1 : wr.cell? ⟨b, o + k * 21 + 1, none⟩ = some (.int .i64 m.p.n0) := hc k m hm 1 (by decide)
      have c2 : wr.cell? ⟨b, o + k * 21 + 2, none⟩ = some (.int .i64 m.p.n1) := hc k m hm 2 (by decide)
      have c3 : wr.cell? ⟨b, o + k * 21 + 3, none⟩ = some (.int .i64 m.p.n2) := hc k m hm 3 (by decide)
      have c4 : wr.cell? ⟨b, o + k * 21 + 4, none⟩ = some (.int .i64 m.p.n3) := hc k m hm 4 (by decide)
      have c5 : wr.cell? ⟨b, o + k * 21 + 5, none⟩ = some (.int .i64 m.p.n4) := hc k m hm 5 (by decide)
      have hnx := usB_at hm mm e r
      obtain ⟨r0, r1, r2, r3, r4⟩ := r
      rw [← hE] at hnx
      obtain ⟨p, on⟩ := m
      dsimp only at c20 c1 c2 c3 c4 c5 hnx
      obtain ⟨n0, hn0⟩ : ∃ n0, p.n0 = n0 := ⟨_, rfl⟩
      obtain ⟨n1, hn1⟩ : ∃ n1, p.n1 = n1 := ⟨_, rfl⟩
      obtain ⟨n2, hn2⟩ : ∃ n2, p.n2 = n2 := ⟨_, rfl⟩
      obtain ⟨n3, hn3⟩ : ∃ n3, p.n3 = n3 := ⟨_, rfl⟩
      obtain ⟨n4, hn4⟩ : ∃ n4, p.n4 = n4 := ⟨_, rfl⟩
      simp only [rtP, addP, addEP, hn0, hn1, hn2, hn3, hn4] at c1 c2 c3 c4 c5 hnx
      have HRn := Lib.hid (show wr.rangeAt b (o + k * 21 + 1) [.int .i64 n0, .int .i64 n1, .int .i64 n2, .int .i64 n3, .int .i64 n4] from fun j v hj => by
        have hj5 : j < 5 := (List.getElem?_eq_some_iff.1 hj).1
        match j, hj5, hj with
        | 0, _, hj => exact c1.trans hj
        | 1, _, hj => exact c2.trans hj
        | 2, _, hj => exact c3.trans hj
        | 3, _, hj => exact c4.trans hj
        | 4, _, hj => exact c5.trans hj)
      clear hE hX hY hB hc hm hn0 hn1 hn2 hn3 hn4
      by_cases ho : on = mm
      · have q := str_yes ho
        rw [if_pos ho] at hnx
        clear ho
        cases hz : rtB n0 n1 n2 n3 n4 with
        | false =>
          rw [hz, if_neg (by decide)] at hnx
          have HNx := Lib.hid hnx
          have HZ := Lib.hid hz
          clear hnx hz
          go_wp2_with (go_at_call 113; (with_reducible refine (resright_any n0 n1 n2 n3 n4 _).mono ?_); rw [HZ.out]; rintro e w3 ⟨rfl, hb3⟩; have HB3 := Lib.hid (HB.out.trans (hb3.mono hbz)); have hz3 := hb3.size; have X3 := HX.out.below hb3; have q0 := X3.cell 0; have q1 := X3.cell 1; have q2 := X3.cell 2; have q3 := X3.cell 3; have q4 := X3.cell 4; have f0 := X3.frozen 0; have f1 := X3.frozen 1; have f2 := X3.frozen 2; have f3 := X3.frozen 3; have f4 := X3.frozen 4; have hl3 := X3.lt; dsimp only [R5.z, R5.l, List.getElem?_cons_zero, List.getElem?_cons_succ] at q0 q1 q2 q3 q4; clear hb3 X3)
          refine bodyPost_ret (v := .tuple #[R5.z.v, .int .i64 12]) (by simp [results, Tryz.results96, go_sem, R5.v, R5.z, *]) rfl ⟨by rw [HNx.out], (((((HB3.out.setCell (Nat.le_refl _) _).setCell (Nat.le_refl _) _).setCell (Nat.le_refl _) _).setCell (Nat.le_refl _) _).setCell (Nat.le_refl _) _)⟩
        | true =>
          rw [hz, if_pos rfl] at hnx
          by_cases he : e = 0
          · subst he
            rw [if_pos rfl] at hnx
            have HNx := Lib.hid hnx
            have HZ := Lib.hid hz
            clear hnx hz
            go_wp2_with (go_at_call 113; (with_reducible refine (resright_any n0 n1 n2 n3 n4 _).mono ?_); rw [HZ.out]; rintro e w3 ⟨rfl, hb3⟩; have HB3 := Lib.hid (HB.out.trans (hb3.mono hbz)); have hz3 := hb3.size; have X3 := Lib.hid (HX.out.below hb3); have Y3 := Lib.hid (HY.out.below hb3); have HRN := Lib.hid (rangeAt_mono HRn.out hb hb3); clear hb3)
            have hyl := Y3.out.lt
            have hb3 : b < w3.heap.size := by omega
            have HRY := Lib.hid (show w3.rangeAt (w.heap.size + 1) 0 [.int .i64 r0, .int .i64 r1, .int .i64 r2, .int .i64 r3, .int .i64 r4] from fun j v hj => by rw [Nat.zero_add, Y3.out.cell]; exact hj)
            clear c20 c1 c2 c3 c4 c5
            have hcH := held_cell
            refine region_rel_late 11 [10] (by kernel_rfl) (by kernel_rfl) (by kernel_rfl) ?_ ?_
            · exact fun _ _ _ _ _ h => h
            dsimp only [List.take, List.drop]
            repeat
              ((with_reducible refine relStep (fun K hK => ?_))
               (have HK := Lib.hid hK)
               clear hK
               (apply relInl
                · intro r n hf
                  have Hf := Lib.hid hf
                  clear hf
                  (first
                    | ((first | ((with_reducible refine at_rel (ty := 25) ?_); refine rel_load rfl (w.heap.size + 1) 0 rfl [.int .i64 r0, .int .i64 r1, .int .i64 r2, .int .i64 r3, .int .i64 r4] _ Tryz.underlying25 rfl (by kernel_rfl) (rangeAt_mono HRY.out hyl n.below) rfl) | ((with_reducible refine at_rel (ty := 25) ?_); refine rel_load rfl b (o + k * 21 + 1) rfl [.int .i64 n0, .int .i64 n1, .int .i64 n2, .int .i64 n3, .int .i64 n4] _ Tryz.underlying25 rfl (by kernel_rfl) (rangeAt_mono HRN.out hb3 n.below) rfl)))
                    | (unfold relAt
                       go_simp
                       (first | (refine relUpon_val ?_ (Below.refl _ _); exact rfl) | exact rfl | (refine relUpon_enter ?_; (go_at_call 116; (with_reducible refine (Rs.add_any r0 r1 r2 r3 r4 n0 n1 n2 n3 n4 _).mono ?_); rintro e w9 ⟨rfl, hb⟩; exact ⟨⟨_, rfl, rfl⟩, hb⟩)))))
                (simp only [Act.put, List.setIfInBounds_toArray, List.set_cons_zero, List.set_cons_succ])
                (with_reducible refine HK.out _ _ ?_)
                clear HK K))
            refine relNil ?_
            intro r9 n9 hx9
            clear hcH
            (try simp only [List.nil_append, List.cons_append, List.mem_cons, List.not_mem_nil, or_false, forall_eq_or_imp, forall_eq, false_implies, implies_true] at hx9)
            obtain ⟨w9, hb9⟩ := n9
            (try dsimp only)
            obtain ⟨hc9, hf9⟩ := bcell hb9
            have hz9 := hb9.size
            (try simp at hz9)
            have X9 := Lib.hid (X3.out.below hb9)
            have Y9 := Lib.hid (Y3.out.below hb9)
            have HB9 := Lib.hid (HB3.out.trans (hb9.mono HB3.out.size))
            have y0 := Y9.out.cell 0
            have y1 := Y9.out.cell 1
            have y2 := Y9.out.cell 2
            have y3 := Y9.out.cell 3
            have y4 := Y9.out.cell 4
            have f0 := Y9.out.frozen 0
            have f1 := Y9.out.frozen 1
            have f2 := Y9.out.frozen 2
            have f3 := Y9.out.frozen 3
            have f4 := Y9.out.frozen 4
            have hy9 := Y9.out.lt
            dsimp only [R5.l, List.getElem?_cons_zero, List.getElem?_cons_succ] at y0 y1 y2 y3 y4
            generalize Rs.addE r0 r1 r2 r3 r4 n0 n1 n2 n3 n4 = E at HNx ⊢
            generalize Rs.sel E (r0 + n0) = s0 at HNx ⊢
            generalize Rs.sel E (r1 + n1) = s1 at HNx ⊢
            generalize Rs.sel E (r2 + n2) = s2 at HNx ⊢
            generalize Rs.sel E (r3 + n3) = s3 at HNx ⊢
            generalize Rs.sel E (r4 + n4) = s4 at HNx ⊢
            clear hb9 hc9 hf9 hz9
            go_wp2
            go_roundw
            case rel => exact ⟨k + 1, E, ⟨s0, s1, s2, s3, s4⟩, by omega, rfl, by go_num, HNx.out, ((((X9.out.other (by show ¬ _ = _; simp) _).other (by show ¬ _ = _; simp) _).other (by show ¬ _ = _; simp) _).other (by show ¬ _ = _; simp) _).other (by show ¬ _ = _; simp) _, ((((Y9.out.set 0 _).set 1 _).set 2 _).set 3 _).set 4 _, ((((HB9.out.setCell (Nat.le_succ _) _).setCell (Nat.le_succ _) _).setCell (Nat.le_succ _) _).setCell (Nat.le_succ _) _).setCell (Nat.le_succ _) _⟩
            case measure => simp [intOf]; omega
          · have q0 : (e == 0) = false := by simpa using he
            rw [if_neg he] at hnx
            have HNx := Lib.hid hnx
            have HZ := Lib.hid hz
            clear hnx hz he
            go_wp2_with (go_at_call 113; (with_reducible refine (resright_any n0 n1 n2 n3 n4 _).mono ?_); rw [HZ.out]; rintro e w3 ⟨rfl, hb3⟩; have HB3 := Lib.hid (HB.out.trans (hb3.mono hbz)); have X3 := Lib.hid (HX.out.below hb3); have Y3 := Lib.hid (HY.out.below hb3); clear hb3)
            go_roundw
            case rel => exact ⟨k + 1, e, ⟨r0, r1, r2, r3, r4⟩, by omega, rfl, by go_num, HNx.out, X3.out, Y3.out, HB3.out⟩
            case measure => simp [intOf]; omega
      · have q := str_no ho
        rw [if_neg ho] at hnx
        have HNx := Lib.hid hnx
        clear hnx ho
        go_wp2
        go_roundw
        case rel => exact ⟨k + 1, e, ⟨r0, r1, r2, r3, r4⟩, by omega, rfl, by go_num, HNx.out, HX.out, HY.out, HB.out⟩
        case measure => simp [intOf]; omega
    · obtain rfl : k = n := by omega
      have hL : U = (e, r) := by rw [hE, List.drop_eq_nil_of_le (by rw [HN.out]; exact Nat.le_refl _)]; rfl
      have HL := Lib.hid hL
      obtain ⟨r0, r1, r2, r3, r4⟩ := r
      have q0 := HX.out.cell 0
      have q1 := HX.out.cell 1
      have q2 := HX.out.cell 2
      have q3 := HX.out.cell 3
      have q4 := HX.out.cell 4
      have f0 := HX.out.frozen 0
      have f1 := HX.out.frozen 1
      have f2 := HX.out.frozen 2
      have f3 := HX.out.frozen 3
      have f4 := HX.out.frozen 4
      have y0 := HY.out.cell 0
      have y1 := HY.out.cell 1
      have y2 := HY.out.cell 2
      have y3 := HY.out.cell 3
      have y4 := HY.out.cell 4
      have hl3 := HX.out.lt
      dsimp only [R5.z, R5.l, List.getElem?_cons_zero, List.getElem?_cons_succ] at q0 q1 q2 q3 q4 y0 y1 y2 y3 y4
      clear hE hX hY hB hL
      go_wp2
      refine bodyPost_ret (v := .tuple #[R5.v ⟨r0, r1, r2, r3, r4⟩, .int .i64 e]) (by simp [results, Tryz.results96, go_sem, R5.v, R5.z, *]) rfl ⟨by rw [HL.out], (((((HB.out.setCell (Nat.le_refl _) _).setCell (Nat.le_refl _) _).setCell (Nat.le_refl _) _).setCell (Nat.le_refl _) _).setCell (Nat.le_refl _) _)⟩
def lstP (a b : R5) : R5 := ⟨Rs.leastC a.r0 a.r1 a.r2 a.r3 a.r4 b.r0 b.r1 b.r2 b.r3 b.r4 a.r0 b.r0, Rs.leastC a.r0 a.r1 a.r2 a.r3 a.r4 b.r0 b.r1 b.r2 b.r3 b.r4 a.r1 b.r1, Rs.leastC a.r0 a.r1 a.r2 a.r3 a.r4 b.r0 b.r1 b.r2 b.r3 b.r4 a.r2 b.r2, Rs.leastC a.r0 a.r1 a.r2 a.r3 a.r4 b.r0 b.r1 b.r2 b.r3 b.r4 a.r3 b.r3, Rs.leastC a.r0 a.r1 a.r2 a.r3 a.r4 b.r0 b.r1 b.r2 b.r3 b.r4 a.r4 b.r4⟩
def subEP (a b : R5) : Int := Rs.subE a.r0 a.r1 a.r2 a.r3 a.r4 b.r0 b.r1 b.r2 b.r3 b.r4
def subP (a b : R5) : R5 := ⟨Rs.sel (subEP a b) (a.r0 - b.r0), Rs.sel (subEP a b) (a.r1 - b.r1), Rs.sel (subEP a b) (a.r2 - b.r2), Rs.sel (subEP a b) (a.r3 - b.r3), Rs.sel (subEP a b) (a.r4 - b.r4)⟩
def hasM (m : Mac) : R5 := ⟨m.r0, m.r1, m.r2, m.r3, m.r4⟩
def leftY (m : Mac) (bs : List Bd) : R5 := if (usedY bs m.nm).1 = 0 then subP (hasM m) (lstP (hasM m) (usedY bs m.nm).2) else R5.z
def NewR (N : Nat) (u : Value) (w : World) : Prop := ∃ X, u = .pointer (some ⟨X, 0, none⟩) ∧ N ≤ X ∧ Blk w X 25 R5.z.l
theorem NewR.mk {W : World} (n : Held W) : NewR W.heap.size (.pointer (some ⟨n.w.heap.size, 0, none⟩)) (n.w.alloc (.cells #[.int .i64 0, .int .i64 0, .int .i64 0, .int .i64 0, .int .i64 0] 25)) := ⟨_, rfl, n.below.size, Blk.new _ 25 R5.z.l⟩
theorem NewR.stays (N : Nat) : Stays (NewR N) := fun v w w' hb ⟨X, e, h, hB⟩ => ⟨X, e, h, hB.below hb⟩

set_option maxRecDepth 100000 in
set_option maxHeartbeats 4000000 in
theorem left_any (m : Mac) (a : Option Addr) (ka : Nat) (bs : List Bd) (w : World) (hF : BndL w a bs) (hl : bs.length ≤ 1000000) :
    Calls Tryz.prog 68 #[.agg #[.string (m).nm, .string (m).gp, .int .i64 (m).r0, .int .i64 (m).r1, .int .i64 (m).r2, .int .i64 (m).r3, .int .i64 (m).r4, .slice (m).la (m).labs.length (m).lk, .slice (m).ta (m).tnts.length (m).tk, .bool (m).rd], .slice a bs.length ka] w fun e w' => e = .returned ((leftY m bs).v) ∧ Below w.heap.size w w' := by
  obtain ⟨nm, gp, r0, r1, r2, r3, r4, la, lk, L, ta, tk, T, rd⟩ := m
  obtain ⟨n, hn⟩ : ∃ n, bs.length = n := ⟨_, rfl⟩
  have hUs := (fun W hW => used_any a ka bs nm W (hF.mono hW) hl)
  obtain ⟨U, hU⟩ : ∃ U, usedY bs nm = U := ⟨_, rfl⟩
  have hLY : leftY ⟨nm, gp, r0, r1, r2, r3, r4, la, lk, L, ta, tk, T, rd⟩ bs = if U.1 = 0 then subP ⟨r0, r1, r2, r3, r4⟩ (lstP ⟨r0, r1, r2, r3, r4⟩ U.2) else R5.z := by rw [← hU]; rfl
  rw [hU, hn] at hUs
  rw [hLY, hn]
  clear hn hF hU hLY
  obtain ⟨e, u0, u1, u2, u3, u4⟩ := U
  dsimp only [R5.v] at hUs
  have HUs := Lib.hid hUs
  clear hUs
  by_cases he : e = 0
  · subst he
    rw [if_pos rfl]
    obtain ⟨E, hE⟩ : ∃ E, lstP ⟨r0, r1, r2, r3, r4⟩ ⟨u0, u1, u2, u3, u4⟩ = E := ⟨_, rfl⟩
    obtain ⟨e0, e1, e2, e3, e4⟩ := E
    injection hE with h0 h1 h2 h3 h4
    have hLs := fun W => Rs.least_any r0 r1 r2 r3 r4 u0 u1 u2 u3 u4 W
    rw [show lstP ⟨r0, r1, r2, r3, r4⟩ ⟨u0, u1, u2, u3, u4⟩ = ⟨e0, e1, e2, e3, e4⟩ by unfold lstP; simp only [h0, h1, h2, h3, h4]]
    simp only [h0, h1, h2, h3, h4] at hLs
    obtain ⟨D, hD⟩ : ∃ D, subP ⟨r0, r1, r2, r3, r4⟩ ⟨e0, e1, e2, e3, e4⟩ = D := ⟨_, rfl⟩
    rw [hD]
    obtain ⟨d0, d1, d2, d3, d4⟩ := D
    injection hD with h0' h1' h2' h3' h4'
    have hSb := fun W => Rs.sub_any r0 r1 r2 r3 r4 e0 e1 e2 e3 e4 W
    simp only [subEP] at h0' h1' h2' h3' h4'
    simp only [h0', h1', h2', h3', h4'] at hSb
    obtain ⟨E, hE⟩ : ∃ E, Rs.subE r0 r1 r2 r3 r4 e0 e1 e2 e3 e4 = E := ⟨_, rfl⟩
    rw [hE] at hSb
    have HLs := Lib.hid hLs
    have HSb := Lib.hid hSb
    clear hLs hSb h0 h1 h2 h3 h4 h0' h1' h2' h3' h4' hE
    dsimp only [R5.v, R5.z]
    go_enter Tryz.func68, Tryz.ntmps68
    go_wp2_with (go_at_call 96; (with_reducible refine (HUs.out _ (by (repeat' (first | with_reducible exact Below.refl _ _ | with_reducible assumption | with_reducible refine Below.drew ?_ | with_reducible refine below_drewN' ?_ _ | with_reducible refine Below.alloc ?_ ?_ _ | with_reducible refine Below.setCell ?_ ?_ _ | with_reducible refine below_step (by assumption) ?_ ?_ | omega | (simp; done) | (simp; omega))))).mono ?_); rintro e w3 ⟨rfl, hb3⟩; have X3 := Lib.hid (((Blk.new w 37 [.string nm, .string gp, .int .i64 r0, .int .i64 r1, .int .i64 r2, .int .i64 r3, .int .i64 r4, .slice la L.length lk, .slice ta T.length tk, .bool rd]).alloc _).below hb3); have Y3 := Lib.hid ((by have h9 := Blk.new (w.alloc (.cells [.string nm, .string gp, .int .i64 r0, .int .i64 r1, .int .i64 r2, .int .i64 r3, .int .i64 r4, .slice la L.length lk, .slice ta T.length tk, .bool rd].toArray 37)) 25 R5.z.l; rw [World.size_alloc] at h9; exact h9 : Blk ((w.alloc (.cells [.string nm, .string gp, .int .i64 r0, .int .i64 r1, .int .i64 r2, .int .i64 r3, .int .i64 r4, .slice la L.length lk, .slice ta T.length tk, .bool rd].toArray 37)).alloc (.cells R5.z.l.toArray 25)) (w.heap.size + 1) 25 R5.z.l).below hb3); have HB3 := Lib.hid ((show Below w.heap.size w _ from by (repeat' (first | with_reducible exact Below.refl _ _ | with_reducible assumption | with_reducible refine Below.drew ?_ | with_reducible refine below_drewN' ?_ _ | with_reducible refine Below.alloc ?_ ?_ _ | with_reducible refine Below.setCell ?_ ?_ _ | with_reducible refine below_step (by assumption) ?_ ?_ | omega | (simp; done) | (simp; omega)))).trans (hb3.mono (by simp; omega))); have hz3 := hb3.size; (try simp at hz3); clear hb3)
    obtain ⟨W, hW⟩ : ∃ W, w3.alloc (.cells #[.int .i64 u0, .int .i64 u1, .int .i64 u2, .int .i64 u3, .int .i64 u4] 25) = W := ⟨_, rfl⟩
    have X4 := Lib.hid (hW ▸ X3.out.alloc (.cells #[.int .i64 u0, .int .i64 u1, .int .i64 u2, .int .i64 u3, .int .i64 u4] 25) : Blk W w.heap.size 37 [.string nm, .string gp, .int .i64 r0, .int .i64 r1, .int .i64 r2, .int .i64 r3, .int .i64 r4, .slice la L.length lk, .slice ta T.length tk, .bool rd])
    have Y4 := Lib.hid (hW ▸ Y3.out.alloc (.cells #[.int .i64 u0, .int .i64 u1, .int .i64 u2, .int .i64 u3, .int .i64 u4] 25) : Blk W (w.heap.size + 1) 25 R5.z.l)
    have Z4 := Lib.hid (hW ▸ Blk.new w3 25 [.int .i64 u0, .int .i64 u1, .int .i64 u2, .int .i64 u3, .int .i64 u4] : Blk W w3.heap.size 25 [.int .i64 u0, .int .i64 u1, .int .i64 u2, .int .i64 u3, .int .i64 u4])
    have HB4 := Lib.hid (hW ▸ HB3.out.alloc HB3.out.size (.cells #[.int .i64 u0, .int .i64 u1, .int .i64 u2, .int .i64 u3, .int .i64 u4] 25) : Below w.heap.size w W)
    rw [hW]
    obtain ⟨x, hx⟩ : ∃ x, w3.heap.size = x := ⟨_, rfl⟩
    rw [hx] at Z4 hz3 ⊢
    clear hW hx X3 Y3 HB3
    have HRX := Lib.hid (show W.rangeAt w.heap.size 2 [.int .i64 r0, .int .i64 r1, .int .i64 r2, .int .i64 r3, .int .i64 r4] from fun j v hj => by
      rw [X4.out.cell]
      have hj5 : j < 5 := (List.getElem?_eq_some_iff.1 hj).1
      match j, hj5, hj with
      | 0, _, hj => exact hj
      | 1, _, hj => exact hj
      | 2, _, hj => exact hj
      | 3, _, hj => exact hj
      | 4, _, hj => exact hj)
    have HRU := Lib.hid (show W.rangeAt x 0 [.int .i64 u0, .int .i64 u1, .int .i64 u2, .int .i64 u3, .int .i64 u4] from fun j v hj => by rw [Nat.zero_add, Z4.out.cell]; exact hj)
    have hxl := X4.out.lt
    have hzl := Z4.out.lt
    have hcH := held_cell
    refine region_rel_late 11 [9] (by kernel_rfl) (by kernel_rfl) (by kernel_rfl) ?_ ?_
    · exact fun _ _ _ _ _ h => h
    dsimp only [List.take, List.drop]
    repeat
      ((with_reducible refine relStep (fun K hK => ?_))
       (have HK := Lib.hid hK)
       clear hK
       (apply relInl
        · intro r n hf
          have Hf := Lib.hid hf
          clear hf
          (first
            | ((first | ((with_reducible refine at_rel (ty := 25) ?_); refine rel_load rfl w.heap.size 2 rfl [.int .i64 r0, .int .i64 r1, .int .i64 r2, .int .i64 r3, .int .i64 r4] _ Tryz.underlying25 rfl (by kernel_rfl) (rangeAt_mono HRX.out hxl n.below) rfl) | ((with_reducible refine at_rel (ty := 25) ?_); refine rel_load rfl x 0 rfl [.int .i64 u0, .int .i64 u1, .int .i64 u2, .int .i64 u3, .int .i64 u4] _ Tryz.underlying25 rfl (by kernel_rfl) (rangeAt_mono HRU.out hzl n.below) rfl)))
            | (unfold relAt
               go_simp
               (first | (refine relUpon_val ?_ (Below.refl _ _); exact rfl) | exact rfl | (refine relUpon_enter ?_; (first | (go_at_call 97; (with_reducible refine (HLs.out _).mono ?_); rintro e w9 ⟨rfl, hb⟩; exact ⟨⟨_, rfl, rfl⟩, hb⟩) | (go_at_call 95; (with_reducible refine (HSb.out _).mono ?_); rintro e w9 ⟨rfl, hb⟩; exact ⟨⟨_, rfl, rfl⟩, hb⟩))))))
        (simp only [Act.put, List.setIfInBounds_toArray, List.set_cons_zero, List.set_cons_succ])
        (with_reducible refine HK.out _ _ ?_)
        clear HK K))
    (with_reducible refine relStep (fun K hK => ?_))
    (have HK := Lib.hid hK)
    clear hK
    refine relInr (NewR W.heap.size) (NewR.stays _) (fun r n hf => ?_) ?_
    · have Hf := Lib.hid hf
      clear hf HK K
      unfold relAt
      (skip)
      go_simp
      ((refine relUpon_val ?_ ?_; exact NewR.mk n; exact (Below.refl _ _).alloc (Nat.le_refl _) _))
    (simp only [Act.put, List.setIfInBounds_toArray, List.set_cons_zero, List.set_cons_succ])
    (with_reducible refine HK.out _ _ ?_)
    clear HK K
    refine relNil ?_
    intro r9 n9 hx9
    clear hcH
    (try simp only [List.nil_append, List.cons_append, List.mem_cons, List.not_mem_nil, or_false, forall_eq_or_imp, forall_eq, false_implies, implies_true] at hx9)
    obtain ⟨w9, hb9⟩ := n9
    (try dsimp only)
    obtain ⟨hc9, hf9⟩ := bcell hb9
    have hz9 := hb9.size
    (try simp at hz9)
    obtain ⟨q, e9, hq, hB9⟩ := hx9
    have e9 : r9 10 = _ := e9
    dsimp only at hB9
    rw [e9]
    have Z9 := Lib.hid hB9
    have Y9 := Lib.hid (Y4.out.below hb9)
    have HB9 := Lib.hid (HB4.out.trans (hb9.mono HB4.out.size))
    have y0 := Y9.out.cell 0
    have f0 := Y9.out.frozen 0
    have z0 := Z9.out.cell 0
    have g0 := Z9.out.frozen 0
    have y1 := Y9.out.cell 1
    have f1 := Y9.out.frozen 1
    have z1 := Z9.out.cell 1
    have g1 := Z9.out.frozen 1
    have y2 := Y9.out.cell 2
    have f2 := Y9.out.frozen 2
    have z2 := Z9.out.cell 2
    have g2 := Z9.out.frozen 2
    have y3 := Y9.out.cell 3
    have f3 := Y9.out.frozen 3
    have z3 := Z9.out.cell 3
    have g3 := Z9.out.frozen 3
    have y4 := Y9.out.cell 4
    have f4 := Y9.out.frozen 4
    have z4 := Z9.out.cell 4
    have g4 := Z9.out.frozen 4
    have hyl := Y9.out.lt
    have hql := Z9.out.lt
    have hqw : w.heap.size + 1 < q := Nat.lt_of_lt_of_le Y4.out.lt hq
    dsimp only [R5.z, R5.l, List.getElem?_cons_zero, List.getElem?_cons_succ] at y0 y1 y2 y3 y4 z0 z1 z2 z3 z4
    clear hB9 e9 hb9 hc9 hf9 hz9 hq hxl hzl HRX HRU X4 Y4 Z4 HB4 hz3
    go_wp2
    refine bodyPost_ret (v := .agg #[.int .i64 d0, .int .i64 d1, .int .i64 d2, .int .i64 d3, .int .i64 d4]) (by simp [results, Tryz.results68, go_sem, *]) rfl ⟨rfl, ?_⟩
    have hqw' : w.heap.size ≤ q := by omega
    exact ((((((((((HB9.out.setCell hqw' _).setCell hqw' _).setCell hqw' _).setCell hqw' _).setCell hqw' _).setCell (Nat.le_succ _) _).setCell (Nat.le_succ _) _).setCell (Nat.le_succ _) _).setCell (Nat.le_succ _) _).setCell (Nat.le_succ _) _)
  · have q0 : (e == 0) = false := by simpa using he
    rw [if_neg he]
    dsimp only [R5.v, R5.z]
    go_enter Tryz.func68, Tryz.ntmps68
    go_wp2_with (go_at_call 96; (with_reducible refine (HUs.out _ (by (repeat' (first | with_reducible exact Below.refl _ _ | with_reducible assumption | with_reducible refine Below.drew ?_ | with_reducible refine below_drewN' ?_ _ | with_reducible refine Below.alloc ?_ ?_ _ | with_reducible refine Below.setCell ?_ ?_ _ | with_reducible refine below_step (by assumption) ?_ ?_ | omega | (simp; done) | (simp; omega))))).mono ?_); rintro e w3 ⟨rfl, hb3⟩; have X3 := Lib.hid (((Blk.new w 37 [.string nm, .string gp, .int .i64 r0, .int .i64 r1, .int .i64 r2, .int .i64 r3, .int .i64 r4, .slice la L.length lk, .slice ta T.length tk, .bool rd]).alloc _).below hb3); have Y3 := Lib.hid ((by have h9 := Blk.new (w.alloc (.cells [.string nm, .string gp, .int .i64 r0, .int .i64 r1, .int .i64 r2, .int .i64 r3, .int .i64 r4, .slice la L.length lk, .slice ta T.length tk, .bool rd].toArray 37)) 25 R5.z.l; rw [World.size_alloc] at h9; exact h9 : Blk ((w.alloc (.cells [.string nm, .string gp, .int .i64 r0, .int .i64 r1, .int .i64 r2, .int .i64 r3, .int .i64 r4, .slice la L.length lk, .slice ta T.length tk, .bool rd].toArray 37)).alloc (.cells R5.z.l.toArray 25)) (w.heap.size + 1) 25 R5.z.l).below hb3); have HB3 := Lib.hid ((show Below w.heap.size w _ from by (repeat' (first | with_reducible exact Below.refl _ _ | with_reducible assumption | with_reducible refine Below.drew ?_ | with_reducible refine below_drewN' ?_ _ | with_reducible refine Below.alloc ?_ ?_ _ | with_reducible refine Below.setCell ?_ ?_ _ | with_reducible refine below_step (by assumption) ?_ ?_ | omega | (simp; done) | (simp; omega)))).trans (hb3.mono (by simp; omega))); have hz3 := hb3.size; (try simp at hz3); clear hb3; have y0 := Y3.out.cell 0; have f0 := Y3.out.frozen 0; have y1 := Y3.out.cell 1; have f1 := Y3.out.frozen 1; have y2 := Y3.out.cell 2; have f2 := Y3.out.frozen 2; have y3 := Y3.out.cell 3; have f3 := Y3.out.frozen 3; have y4 := Y3.out.cell 4; have f4 := Y3.out.frozen 4; have hyl := Y3.out.lt; (dsimp only [R5.z, R5.l, List.getElem?_cons_zero, List.getElem?_cons_succ] at y0 y1 y2 y3 y4))
    refine bodyPost_ret (v := R5.z.v) (by simp [results, Tryz.results68, go_sem, R5.v, R5.z, *]) rfl ⟨rfl, ?_⟩
    exact (((((HB3.out.setCell (Nat.le_succ _) _).setCell (Nat.le_succ _) _).setCell (Nat.le_succ _) _).setCell (Nat.le_succ _) _).setCell (Nat.le_succ _) _).alloc (by simp; omega) _
def zoneT : ByteArray := ⟨#[122, 111, 110, 101]⟩
def zoneA (out : List ByteArray) (m : Mac) : List ByteArray := if Lb.getB m.labs zoneT = true then (if m.rd = true then (if out.any (strB (Lb.getV m.labs zoneT)) = true then out else out ++ [Lb.getV m.labs zoneT]) else out) else out
/-- The zones there are. -/
def zonesY (ms : List Mac) : List ByteArray := ms.foldl zoneA []
theorem zonesY_next {ms : List Mac} {k : Nat} {m : Mac} (h : ms[k]? = some m) : zonesY (ms.take (k + 1)) = zoneA (zonesY (ms.take k)) m := by
  unfold zonesY
  rw [List.take_add_one, h, List.foldl_append]
  rfl
def GivesT (w : World) (L : List ByteArray) (e : Ending) (w' : World) : Prop := (∃ v, e = .returned v ∧ w'.ownsRow w.heap.size 9 1 v L.length (L.flatMap scs)) ∧ Below w.heap.size w w'
set_option maxRecDepth 100000 in
set_option maxHeartbeats 4000000 in
theorem zones_any (a : Option Addr) (ka : Nat) (ms : List Mac) (w : World) (hF : MacL w a ms) (hI : ∀ m ∈ ms, MacIn w m) (hs : ∀ m ∈ ms, m.labs.length ≤ maxLen) (hl : ms.length ≤ 1000000) :
    Calls Tryz.prog 101 #[.slice a ms.length ka] w (GivesT w (zonesY ms)) := by
  obtain ⟨n, hn⟩ : ∃ n, ms.length = n := ⟨_, rfl⟩
  have HN := Lib.hid hn
  have HF := Lib.hid hF
  have HG := Lib.hid (fun m (hm : m ∈ ms) V (hV : Below w.heap.size w V) => Lb.get_any m.la m.lk m.labs zoneT V (((hI m hm).mono hV).here.1) (hs m hm))
  rw [hn] at hl ⊢
  clear hn hF hI hs
  obtain ⟨i0, hi, hz0, hz1, hz2⟩ := info_parts Tryz.info9
  have Hi := Lib.hid hi
  have Hz0 := Lib.hid hz0
  have Hz1 := Lib.hid hz1
  have Hz2 := Lib.hid hz2
  clear hi hz0 hz1 hz2
  go_enter Tryz.func101, Tryz.ntmps101
  go_wp2
  go_loopw [3, 9] (fun vo vi wr => ∃ (k : Nat) (L : List ByteArray), k ≤ n ∧ vi = .int .i64 k ∧ L = zonesY (ms.take k) ∧ L.length ≤ k ∧ wr.ownsRow w.heap.size 9 1 vo L.length (L.flatMap scs) ∧ Below w.heap.size w wr) (fun _ vi _ => n - (intOf vi).toNat)
  case atStart => exact ⟨0, [], Nat.zero_le _, rfl, rfl, Nat.le_refl _, World.ownsRow_nil _ _ _ _, by (repeat' (first | with_reducible exact Below.refl _ _ | with_reducible assumption | with_reducible refine Below.drew ?_ | with_reducible refine below_drewN' ?_ _ | with_reducible refine Below.alloc ?_ ?_ _ | with_reducible refine Below.setCell ?_ ?_ _ | with_reducible refine below_step (by assumption) ?_ ?_ | omega | (simp; done) | (simp; omega)))⟩
  case round =>
    obtain ⟨k, L, hk, rfl, hE, hLk, hO, hB⟩ := hrel
    have HE := Lib.hid hE
    have HB := Lib.hid hB
    have HO := Lib.hid hO
    have hbz := hB.size
    obtain ⟨ao, ko, rfl, -, hT⟩ := IsL.of_own scs_len (by decide) hO
    have HT := Lib.hid hT
    by_cases hlt : k < n
    · obtain ⟨m, hm⟩ := mem_at (l := ms) (k := k) (by rw [HN.out]; exact hlt)
      obtain ⟨b, o, rfl, hb, hc⟩ := (HF.out.mono hB) (by rw [HN.out]; omega)
      have c7 : wr.cell? ⟨b, o + k * 10 + 7, none⟩ = some (.slice m.la m.labs.length m.lk) := hc k m hm 7 (by decide)
      have c9 : wr.cell? ⟨b, o + k * 10 + 9, none⟩ = some (.bool m.rd) := hc k m hm 9 (by decide)
      have hnx := zonesY_next hm
      have HGm := Lib.hid (fun V hV => HG.out m (List.mem_of_getElem? hm) V hV)
      rw [← hE] at hnx
      clear hE hO hB hc hm hT
      obtain ⟨nm, gp, r0, r1, r2, r3, r4, la, lk, labs, ta, tk, tnts, rd⟩ := m
      dsimp only [zoneA] at c7 c9 hnx HGm
      obtain ⟨z, hz⟩ : ∃ z, Lb.getV labs zoneT = z := ⟨_, rfl⟩
      obtain ⟨g, hg⟩ : ∃ g, Lb.getB labs zoneT = g := ⟨_, rfl⟩
      rw [hz, hg] at hnx HGm
      unfold zoneT at HGm
      clear hz hg
      cases g with
      | false =>
        rw [if_neg (by decide)] at hnx
        have HNx := Lib.hid hnx.symm
        clear hnx
        go_wp2_with (go_at_call 100; (with_reducible refine (HGm.out _ HB.out).mono ?_); rintro e w3 ⟨rfl, hb3⟩; have HB3 := Lib.hid (HB.out.trans (hb3.mono hbz)); have HO3 := Lib.hid (own_kept HO.out hb3); have HT3 := Lib.hid (HT.out.mono hb3); clear hb3)
        go_roundw
        case rel => exact ⟨k + 1, L, by omega, by go_num, HNx.out, by omega, HO3.out, HB3.out⟩
        case measure => simp [intOf]; omega
      | true =>
        rw [if_pos rfl] at hnx
        cases rd with
        | false =>
          rw [if_neg (by decide)] at hnx
          have HNx := Lib.hid hnx.symm
          clear hnx
          go_wp2_with (go_at_call 100; (with_reducible refine (HGm.out _ HB.out).mono ?_); rintro e w3 ⟨rfl, hb3⟩; have HB3 := Lib.hid (HB.out.trans (hb3.mono hbz)); have hbz3 := Nat.le_trans hbz hb3.size; have HO3 := Lib.hid (own_kept HO.out hb3); have HT3 := Lib.hid (HT.out.mono hb3); have d9 : w3.cell? ⟨b, o + k * 10 + 9, none⟩ = _ := (hb3.cell (p := ⟨b, o + k * 10 + 9, none⟩) hb).trans c9; clear hb3)
          go_roundw
          case rel => exact ⟨k + 1, L, by omega, by go_num, HNx.out, by omega, HO3.out, HB3.out⟩
          case measure => simp [intOf]; omega
        | true =>
          rw [if_pos rfl] at hnx
          have HCs := Lib.hid (fun V (h : TxtL V ao L) => Lb.containss_any ao ko L z V h (by omega))
          cases hv : L.any (strB z) with
          | true =>
            rw [hv, if_pos rfl] at hnx
            rw [hv] at HCs
            have HNx := Lib.hid hnx.symm
            clear hnx hv
            go_wp2_with (first | (go_at_call 100; (with_reducible refine (HGm.out _ HB.out).mono ?_); rintro e w3 ⟨rfl, hb3⟩; have HB3 := Lib.hid (HB.out.trans (hb3.mono hbz)); have hbz3 := Nat.le_trans hbz hb3.size; have HO3 := Lib.hid (own_kept HO.out hb3); have HT3 := Lib.hid (HT.out.mono hb3); have d9 : w3.cell? ⟨b, o + k * 10 + 9, none⟩ = _ := (hb3.cell (p := ⟨b, o + k * 10 + 9, none⟩) hb).trans c9; clear hb3) | (go_at_call 110; (with_reducible refine (HCs.out _ HT3.out).mono ?_); rintro e w4 ⟨rfl, hb4⟩; have HB4 := Lib.hid (HB3.out.trans (hb4.mono hbz3)); have HO4 := Lib.hid (own_kept HO3.out hb4); clear hb4))
            go_roundw
            case rel => exact ⟨k + 1, L, by omega, by go_num, HNx.out, by omega, HO4.out, HB4.out⟩
            case measure => simp [intOf]; omega
          | false =>
            rw [hv, if_neg (by decide)] at hnx
            rw [hv] at HCs
            have HNx := Lib.hid hnx.symm
            clear hnx hv
            go_wp2_with (first
              | (go_at_call 100; (with_reducible refine (HGm.out _ HB.out).mono ?_); rintro e w3 ⟨rfl, hb3⟩; have HB3 := Lib.hid (HB.out.trans (hb3.mono hbz)); have hbz3 := Nat.le_trans hbz hb3.size; have HO3 := Lib.hid (own_kept HO.out hb3); have HT3 := Lib.hid (HT.out.mono hb3); have d9 : w3.cell? ⟨b, o + k * 10 + 9, none⟩ = _ := (hb3.cell (p := ⟨b, o + k * 10 + 9, none⟩) hb).trans c9; clear hb3)
              | (go_at_call 110; (with_reducible refine (HCs.out _ HT3.out).mono ?_); rintro e w4 ⟨rfl, hb4⟩; have HB4 := Lib.hid (HB3.out.trans (hb4.mono hbz3)); have hbz4 := Nat.le_trans hbz3 hb4.size; have HO4 := Lib.hid (own_kept HO3.out hb4); clear hb4)
              | (at_builtin; refine wpList_append_src rfl (.tmp 35) (.tmp 37) 39 rfl w.heap.size 9 i0 _ 1 16 Tryz.underlying39 Hi.out Hz0.out Hz1.out Hz2.out rfl (by decide) _ L.length (L.flatMap scs) rfl (HO4.out.alloc _) (some ⟨w4.heap.size, 0, none⟩) 1 1 (scs z) rfl rfl (fun q e => by injection e with e; rw [← e]; exact news_at _ _ _) (fun e => by cases e) (scs_one z) (by unfold maxLen; omega) (by omega) (by simp; omega) ?_; intro v6 w6 hown6 hgrow6; obtain ⟨a6, k6, rfl⟩ := own_sl hown6; have HB6 := Lib.hid (own_below (HO4.out.alloc _) (HB4.out.alloc hbz4 _) (by simp; omega) hgrow6); have HO6 := Lib.hid hown6; clear hown6 hgrow6))
            go_roundw
            case rel =>
              refine ⟨k + 1, L ++ [z], by omega, by go_num, HNx.out, by rw [List.length_append]; show L.length + 1 ≤ _; omega, ?_, HB6.out⟩
              rw [List.length_append, List.flatMap_append]
              have h9 := HO6.out
              simpa using h9
            case measure => simp [intOf]; omega
    · obtain rfl : k = n := by omega
      have hL : L = zonesY ms := by rw [hE, List.take_of_length_le (by rw [HN.out]; exact Nat.le_refl _)]
      have HL := Lib.hid hL
      clear hE hO hB hL
      go_wp2
      refine bodyPost_ret (v := .slice ao L.length ko) (by simp [results, Tryz.results101, go_sem]) rfl ⟨⟨_, rfl, by rw [← HL.out]; exact HO.out⟩, HB.out⟩
def labK : List Lab := [⟨⟨#[122, 111, 110, 101]⟩, ⟨#[97]⟩⟩]
def mK1 (B : Nat) : Mac := ⟨⟨#[109]⟩, emp, 1000, 0, 0, 3, 0, some ⟨B, 0, none⟩, 1, labK, none, 0, [], true⟩
def mK2 : Mac := ⟨⟨#[110]⟩, emp, 0, 0, 0, 0, 0, none, 0, [], none, 0, [], false⟩
def pK (nm : ByteArray) (c : Int) : Pd := ⟨nm, c, 0, 0, 1, 0, none, 0, [], none, 0, [], none, 0, [], none, 0, [], none, 0, [], none, 0, [], false, none, 0, [], 0, 0, emp, false, false, false⟩
def bK1 : Bd := ⟨pK ⟨#[112]⟩ 300, ⟨#[109]⟩⟩
def bK2 : Bd := ⟨pK ⟨#[113]⟩ 0, emp⟩
/-- The yard that known speaks of. -/
structure K9 (w : World) (B : Nat) : Prop where
  lb : LabL w (some ⟨B, 0, none⟩) labK
  ms : MacL w (some ⟨B + 1, 0, none⟩) [mK1 B, mK2]
  m1 : MacL w (some ⟨B + 1, 10, none⟩) [mK2]
  bs : BndL w (some ⟨B + 2, 0, none⟩) [bK1, bK2]
theorem K9.mono {w w' : World} {B : Nat} (h : K9 w B) (hb : Below w.heap.size w w') : K9 w' B := ⟨h.lb.mono hb, h.ms.mono hb, h.m1.mono hb, h.bs.mono hb⟩
theorem mK2_in (w : World) : MacIn w mK2 := ⟨⟨RowsAt.nil, RowsAt.nil, Nat.zero_le _, Nat.zero_le _⟩, fun _ => ⟨rfl, rfl⟩, Nat.le_refl _, fun _ => ⟨rfl, rfl⟩, Nat.le_refl _⟩
theorem K9.mac1 {w : World} {B : Nat} (h : K9 w B) : MacIn w (mK1 B) := ⟨⟨h.lb, RowsAt.nil, (by show 1 ≤ maxLen; decide), Nat.zero_le _⟩, (fun e => by cases e), Nat.le_refl _, fun _ => ⟨rfl, rfl⟩, Nat.le_refl _⟩
theorem K9.mac {w : World} {B : Nat} (h : K9 w B) : ∀ m ∈ [mK1 B, mK2], MacIn w m := fun m hm => by
  simp only [List.mem_cons, List.not_mem_nil, or_false] at hm
  rcases hm with rfl | rfl
  · exact h.mac1
  · exact mK2_in w
theorem pK_in (w : World) (nm : ByteArray) (c : Int) : PodIn w (pK nm c) := ⟨⟨RowsAt.nil, RowsAt.nil, RowsAt.nil, (fun t ht => by cases ht), RowsAt.nil, RowsAt.nil, RowsAt.nil, RowsAt.nil, Nat.zero_le _, Nat.zero_le _, Nat.zero_le _, Nat.zero_le _, Nat.zero_le _, Nat.zero_le _, Nat.zero_le _⟩, ⟨fun _ => ⟨rfl, rfl⟩, Nat.le_refl _⟩, ⟨fun _ => ⟨rfl, rfl⟩, Nat.le_refl _⟩, ⟨fun _ => ⟨rfl, rfl⟩, Nat.le_refl _⟩, ⟨fun _ => ⟨rfl, rfl⟩, Nat.le_refl _⟩, ⟨fun _ => ⟨rfl, rfl⟩, Nat.le_refl _⟩, ⟨fun _ => ⟨rfl, rfl⟩, Nat.le_refl _⟩, ⟨fun _ => ⟨rfl, rfl⟩, Nat.le_refl _⟩⟩
theorem bnd_K (w : World) : ∀ b ∈ [bK1, bK2], BndIn w b := fun b hb => by
  simp only [List.mem_cons, List.not_mem_nil, or_false] at hb
  rcases hb with rfl | rfl <;> exact pK_in w _ _
theorem mrow_len (m : Mac) : (mrow m).length = 10 := rfl
theorem K9.new (w : World) (t1 t2 t3 : TypeId) : K9 (((w.alloc (.cells (labK.flatMap kcs).toArray t1)).alloc (.cells ([mK1 w.heap.size, mK2].flatMap mrow).toArray t2)).alloc (.cells ([bK1, bK2].flatMap brow).toArray t3)) w.heap.size := by
  have b1 : Below (w.heap.size + 1) (w.alloc (.cells (labK.flatMap kcs).toArray t1)) ((w.alloc (.cells (labK.flatMap kcs).toArray t1)).alloc (.cells ([mK1 w.heap.size, mK2].flatMap mrow).toArray t2)) := (Below.refl _ _).alloc (by simp) _
  have b2 : Below (w.heap.size + 2) ((w.alloc (.cells (labK.flatMap kcs).toArray t1)).alloc (.cells ([mK1 w.heap.size, mK2].flatMap mrow).toArray t2)) (((w.alloc (.cells (labK.flatMap kcs).toArray t1)).alloc (.cells ([mK1 w.heap.size, mK2].flatMap mrow).toArray t2)).alloc (.cells ([bK1, bK2].flatMap brow).toArray t3)) := (Below.refl _ _).alloc (by simp) _
  have h1 := RowsAt.new kcs_len w labK t1
  have h2 := RowsAt.new mrow_len (w.alloc (.cells (labK.flatMap kcs).toArray t1)) [mK1 w.heap.size, mK2] t2
  have h3 := RowsAt.new brow_len ((w.alloc (.cells (labK.flatMap kcs).toArray t1)).alloc (.cells ([mK1 w.heap.size, mK2].flatMap mrow).toArray t2)) [bK1, bK2] t3
  rw [World.size_alloc] at h2 h3
  rw [World.size_alloc] at h3
  have h2' := h2.mono (w' := (((w.alloc (.cells (labK.flatMap kcs).toArray t1)).alloc (.cells ([mK1 w.heap.size, mK2].flatMap mrow).toArray t2)).alloc (.cells ([bK1, bK2].flatMap brow).toArray t3))) (by simpa using b2)
  refine ⟨(h1.mono (by simpa using b1)).mono (by simpa using b2), h2', ?_, h3⟩
  intro hp
  obtain ⟨b, o, e, hb, hc⟩ := h2' (Nat.succ_pos _)
  injection e with e
  injection e with e1 e2
  subst e1 e2
  refine ⟨w.heap.size + 1, 10, rfl, hb, fun k m hm j hj => ?_⟩
  have h9 := hc (k + 1) m (by simpa using hm) j hj
  rw [← h9]
  congr 2
  omega
set_option maxRecDepth 100000 in
theorem k_light (B : Nat) : lightM (mK1 B) = true ∧ lightM mK2 = true := ⟨rfl, by decide +kernel⟩
theorem k_lights (B : Nat) : ∀ m ∈ [mK1 B, mK2], lightM m = true := fun m hm => by
  simp only [List.mem_cons, List.not_mem_nil, or_false] at hm
  rcases hm with rfl | rfl
  · exact (k_light B).1
  · exact (k_light B).2
set_option maxRecDepth 100000 in
theorem k_lightb : ∀ b ∈ [bK1, bK2], lightP b.p = true := fun b hb => by
  simp only [List.mem_cons, List.not_mem_nil, or_false] at hb
  rcases hb with rfl | rfl <;> decide +kernel
set_option maxRecDepth 100000 in
theorem k_used : usedY [bK1, bK2] ⟨#[109]⟩ = (0, ⟨300, 0, 0, 1, 0⟩) := rfl
set_option maxRecDepth 100000 in
theorem k_left (B : Nat) : leftY (mK1 B) [bK1, bK2] = ⟨700, 0, 0, 2, 0⟩ := rfl
set_option maxRecDepth 100000 in
theorem k_check (B : Nat) : checkY [mK1 B, mK2] [bK1, bK2] = 0 := rfl
set_option maxRecDepth 100000 in
theorem k_check1 : checkY [mK2] [bK1, bK2] = 16 := by decide +kernel
theorem k_find (B : Nat) : findN ([mK1 B, mK2].map Mac.nm) ⟨#[110]⟩ 0 = 1 := by
  show findN [⟨#[109]⟩, ⟨#[110]⟩] _ 0 = 1
  decide +kernel
theorem k_place : findN ([bK1, bK2].map pnm) ⟨#[113]⟩ 0 = 1 := by decide +kernel
set_option maxRecDepth 100000 in
theorem k_on : (onL [bK1, bK2] ⟨#[109]⟩).length = 1 := by decide +kernel
set_option maxRecDepth 100000 in
theorem k_zones (B : Nat) : zonesY [mK1 B, mK2] = [⟨#[97]⟩] := rfl
end Go.Proofs.YthbpnfpalcgfeaaGreat
