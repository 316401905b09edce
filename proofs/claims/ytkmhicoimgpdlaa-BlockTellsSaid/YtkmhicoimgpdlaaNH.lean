/-
  Yards: Used, Left, Zones.
-/
import Derived.Test.YtkmhicoimgpdlaaNF
import Derived.Test.YtkmhicoimgpdlaaResNG
import Derived.Test.YtkmhicoimgpdlaaLate
namespace Go.Proofs.Ytkmhicoimgpdlaa
open Go.RowKit
set_option linter.unusedVariables false
set_option linter.unusedSimpArgs false

theorem at_rel {P : Program} {ops : Array Oper} {a : Act} {w : World} {R : Value → World → Prop} {d0 : Option Tmp} {ty : TypeId} {x : Operand} {t : TypeId} {p : String} {af : Array Edge} {g : Option (Nat × Bool)}
    (h : relAt P ops { dst := d0, op := .load ty x, type := t, pos := p, after := af, guard := g } a w R) : relAt P ops { dst := d0, op := .load ty x, type := t, pos := p, after := af, guard := g } a w R := h
/-- A quantity of five. -/
structure R5 where
  r0 : Int
  r1 : Int
  r2 : Int
  r3 : Int
  r4 : Int
def R5.z : R5 := ⟨0, 0, 0, 0, 0⟩
def R5.v (r : R5) : Value := .agg #[.int .i64 r.r0, .int .i64 r.r1, .int .i64 r.r2, .int .i64 r.r3, .int .i64 r.r4]
def R5.l (r : R5) : List Value := [.int .i64 r.r0, .int .i64 r.r1, .int .i64 r.r2, .int .i64 r.r3, .int .i64 r.r4]
def rtP (p : Pd) : Bool := rtB p.n0 p.n1 p.n2 p.n3 p.n4
def addEP (r : R5) (p : Pd) : Int := Rs.addE r.r0 r.r1 r.r2 r.r3 r.r4 p.n0 p.n1 p.n2 p.n3 p.n4
def addP (r : R5) (p : Pd) : R5 := ⟨Rs.sel (addEP r p) (r.r0 + p.n0), Rs.sel (addEP r p) (r.r1 + p.n1), Rs.sel (addEP r p) (r.r2 + p.n2), Rs.sel (addEP r p) (r.r3 + p.n3), Rs.sel (addEP r p) (r.r4 + p.n4)⟩
/-- What they need together. -/
def usB (nm : ByteArray) : List Bd → Int → R5 → Int × R5
  | [], e, r => (e, r)
  | b :: l, e, r => if b.on = nm then (if rtP b.p = true then (if e = 0 then usB nm l (addEP r b.p) (addP r b.p) else usB nm l e r) else (12, R5.z)) else usB nm l e r
theorem usB_at {bs : List Bd} {k : Nat} {b : Bd} (h : bs[k]? = some b) (nm : ByteArray) (e : Int) (r : R5) :
    usB nm (bs.drop k) e r = if b.on = nm then (if rtP b.p = true then (if e = 0 then usB nm (bs.drop (k + 1)) (addEP r b.p) (addP r b.p) else usB nm (bs.drop (k + 1)) e r) else (12, R5.z)) else usB nm (bs.drop (k + 1)) e r := by
  obtain ⟨h1, h2⟩ := List.getElem?_eq_some_iff.1 h
  rw [List.drop_eq_getElem_cons h1, h2]
  rfl
def usedY (bs : List Bd) (nm : ByteArray) : Int × R5 := usB nm bs 0 R5.z

set_option maxRecDepth 100000 in
set_option maxHeartbeats 4000000 in
theorem used_any (a : Option Addr) (ka : Nat) (bs : List Bd) (mm : ByteArray) (w : World) (hF : BndL w a bs) (hl : bs.length ≤ 1000000) :
    Calls Try.prog 28 #[.slice a bs.length ka, .string mm] w fun e w' => e = .returned (.tuple #[(usedY bs mm).2.v, .int .i64 (usedY bs mm).1]) ∧ Below w.heap.size w w' := by
  obtain ⟨n, hn⟩ : ∃ n, bs.length = n := ⟨_, rfl⟩
  obtain ⟨U, hU⟩ : ∃ U, usedY bs mm = U := ⟨_, rfl⟩
  have HU := Lib.hid hU
  have HN := Lib.hid hn
  have HF := Lib.hid hF
  rw [hn] at hl ⊢
  rw [hU]
  clear hn hF hU
  go_enter Try.func28, Try.ntmps28
  go_wp2
  go_loopw [7, 11] (fun ve vi wr => ∃ (k : Nat) (e : Int) (r : R5), k ≤ n ∧ ve = .int .i64 e ∧ vi = .int .i64 k ∧ U = usB mm (bs.drop k) e r ∧ Blk wr w.heap.size 31 R5.z.l ∧ Blk wr (w.heap.size + 1) 31 r.l ∧ Below w.heap.size w wr) (fun _ vi _ => n - (intOf vi).toNat)
  case atStart => exact ⟨0, 0, R5.z, Nat.zero_le _, rfl, rfl, HU.out.symm, (Blk.new w 31 R5.z.l).alloc _, by have h9 := Blk.new (w.alloc (.cells R5.z.l.toArray 31)) 31 R5.z.l; rw [World.size_alloc] at h9; exact h9, by (repeat' (first | with_reducible exact Below.refl _ _ | with_reducible assumption | with_reducible refine Below.drew ?_ | with_reducible refine below_drewN' ?_ _ | with_reducible refine Below.alloc ?_ ?_ _ | with_reducible refine Below.setCell ?_ ?_ _ | with_reducible refine below_step (by assumption) ?_ ?_ | omega | (simp; done) | (simp; omega)))⟩
  case round =>
    obtain ⟨k, e, r, hk, rfl, rfl, hE, hX, hY, hB⟩ := hrel
    have HE := Lib.hid hE
    have HX := Lib.hid hX
    have HY := Lib.hid hY
    have HB := Lib.hid hB
    have hbz := hB.size
    by_cases hlt : k < n
    · obtain ⟨m, hm⟩ := mem_at (l := bs) (k := k) (by rw [HN.out]; exact hlt)
      obtain ⟨b, o, rfl, hb, hc⟩ := (HF.out.mono hB) (by rw [HN.out]; omega)
      have c20 : wr.cell? ⟨b, o + k * 21 + 20, none⟩ = some (.string m.on) := hc k m hm 20 (by decide)
      have c1 : wr.cell? ⟨b, o + k * 21 + 1, none⟩ = some (.int .i64 m.p.n0) := hc k m hm 1 (by decide)
      have c2 : wr.cell? ⟨b, o + k * 21 + 2, none⟩ = some (.int .i64 m.p.n1) := hc k m hm 2 (by decide)
      have c3 : wr.cell? ⟨b, o + k * 21 + 3, none⟩ = some (.int .i64 m.p.n2) := hc k m hm 3 (by decide)
      have c4 : wr.cell? ⟨b, o + k * 21 + 4, none⟩ = some (.int .i64 m.p.n3) := hc k m hm 4 (by decide)
      have c5 : wr.cell? ⟨b, o + k * 21 + 5, none⟩ = some (.int .i64 m.p.n4) := hc k m hm 5 (by decide)
      have hnx := usB_at hm mm e r
      obtain ⟨r0, r1, r2, r3, r4⟩ := r
      rw [← hE] at hnx
      obtain ⟨p, on⟩ := m
      dsimp only at c20 c1 c2 c3 c4 c5 hnx
      obtain ⟨n0, hn0⟩ : ∃ n0, p.n0 = n0 := ⟨_, rfl⟩
      obtain ⟨n1, hn1⟩ : ∃ n1, p.n1 = n1 := ⟨_, rfl⟩
      obtain ⟨n2, hn2⟩ : ∃ n2, p.n2 = n2 := ⟨_, rfl⟩
      obtain ⟨n3, hn3⟩ : ∃ n3, p.n3 = n3 := ⟨_, rfl⟩
      obtain ⟨n4, hn4⟩ : ∃ n4, p.n4 = n4 := ⟨_, rfl⟩
      simp only [rtP, addP, addEP, hn0, hn1, hn2, hn3, hn4] at c1 c2 c3 c4 c5 hnx
      have HRn := Lib.hid (show wr.rangeAt b (o + k * 21 + 1) [.int .i64 n0, .int .i64 n1, .int .i64 n2, .int .i64 n3, .int .i64 n4] from fun j v hj => by
        have hj5 : j < 5 := (List.getElem?_eq_some_iff.1 hj).1
        match j, hj5, hj with
        | 0, _, hj => exact c1.trans hj
        | 1, _, hj => exact c2.trans hj
        | 2, _, hj => exact c3.trans hj
        | 3, _, hj => exact c4.trans hj
        | 4, _, hj => exact c5.trans hj)
      clear hE hX hY hB hc hm hn0 hn1 hn2 hn3 hn4
      by_cases ho : on = mm
      · have q := str_yes ho
        rw [if_pos ho] at hnx
        clear ho
        cases hz : rtB n0 n1 n2 n3 n4 with
        | false =>
          rw [hz, if_neg (by decide)] at hnx
          have HNx := Lib.hid hnx
          have HZ := Lib.hid hz
          clear hnx hz
          go_wp2_with (go_at_call 49; (with_reducible refine (resright_any n0 n1 n2 n3 n4 _).mono ?_); rw [HZ.out]; rintro e w3 ⟨rfl, hb3⟩; have HB3 := Lib.hid (HB.out.trans (hb3.mono hbz)); have hz3 := hb3.size; have X3 := HX.out.below hb3; have q0 := X3.cell 0; have q1 := X3.cell 1; have q2 := X3.cell 2; have q3 := X3.cell 3; have q4 := X3.cell 4; have f0 := X3.frozen 0; have f1 := X3.frozen 1; have f2 := X3.frozen 2; have f3 := X3.frozen 3; have f4 := X3.frozen 4; have hl3 := X3.lt; dsimp only [R5.z, R5.l, List.getElem?_cons_zero, List.getElem?_cons_succ] at q0 q1 q2 q3 q4; clear hb3 X3)
          refine bodyPost_ret (v := .tuple #[R5.z.v, .int .i64 12]) (by simp [results, Try.results28, go_sem, R5.v, R5.z, *]) rfl ⟨by rw [HNx.out], (((((HB3.out.setCell (Nat.le_refl _) _).setCell (Nat.le_refl _) _).setCell (Nat.le_refl _) _).setCell (Nat.le_refl _) _).setCell (Nat.le_refl _) _)⟩
        | true =>
          rw [hz, if_pos rfl] at hnx
          by_cases he : e = 0
          · subst he
            rw [if_pos rfl] at hnx
            have HNx := Lib.hid hnx
            have HZ := Lib.hid hz
            clear hnx hz
            go_wp2_with (go_at_call 49; (with_reducible refine (resright_any n0 n1 n2 n3 n4 _).mono ?_); rw [HZ.out]; rintro e w3 ⟨rfl, hb3⟩; have HB3 := Lib.hid (HB.out.trans (hb3.mono hbz)); have hz3 := hb3.size; have X3 := Lib.hid (HX.out.below hb3); have Y3 := Lib.hid (HY.out.below hb3); have HRN := Lib.hid (rangeAt_mono HRn.out hb hb3); clear hb3)
            have hyl := Y3.out.lt
            have hb3 : b < w3.heap.size := by omega
            have HRY := Lib.hid (show w3.rangeAt (w.heap.size + 1) 0 [.int .i64 r0, .int .i64 r1, .int .i64 r2, .int .i64 r3, .int .i64 r4] from fun j v hj => by rw [Nat.zero_add, Y3.out.cell]; exact hj)
            clear c20 c1 c2 c3 c4 c5
            have hcH := held_cell
            refine region_rel_late 11 [10] (by kernel_rfl) (by kernel_rfl) (by kernel_rfl) ?_ ?_
            · exact fun _ _ _ _ _ h => h
            dsimp only [List.take, List.drop]
            repeat
              ((with_reducible refine relStep (fun K hK => ?_))
               (have HK := Lib.hid hK)
               clear hK
               (apply relInl
                · intro r n hf
                  have Hf := Lib.hid hf
                  clear hf
                  (first
                    | ((first | ((with_reducible refine at_rel (ty := 31) ?_); refine rel_load rfl (w.heap.size + 1) 0 rfl [.int .i64 r0, .int .i64 r1, .int .i64 r2, .int .i64 r3, .int .i64 r4] _ Try.underlying31 rfl (by kernel_rfl) (rangeAt_mono HRY.out hyl n.below) rfl) | ((with_reducible refine at_rel (ty := 31) ?_); refine rel_load rfl b (o + k * 21 + 1) rfl [.int .i64 n0, .int .i64 n1, .int .i64 n2, .int .i64 n3, .int .i64 n4] _ Try.underlying31 rfl (by kernel_rfl) (rangeAt_mono HRN.out hb3 n.below) rfl)))
                    | (unfold relAt
                       go_simp
                       (first | (refine relUpon_val ?_ (Below.refl _ _); exact rfl) | exact rfl | (refine relUpon_enter ?_; (go_at_call 50; (with_reducible refine (Rs.add_any r0 r1 r2 r3 r4 n0 n1 n2 n3 n4 _).mono ?_); rintro e w9 ⟨rfl, hb⟩; exact ⟨⟨_, rfl, rfl⟩, hb⟩)))))
                (simp only [Act.put, List.setIfInBounds_toArray, List.set_cons_zero, List.set_cons_succ])
                (with_reducible refine HK.out _ _ ?_)
                clear HK K))
            refine relNil ?_
            intro r9 n9 hx9
            clear hcH
            (try simp only [List.nil_append, List.cons_append, List.mem_cons, List.not_mem_nil, or_false, forall_eq_or_imp, forall_eq, false_implies, implies_true] at hx9)
            obtain ⟨w9, hb9⟩ := n9
            (try dsimp only)
            obtain ⟨hc9, hf9⟩ := bcell hb9
            have hz9 := hb9.size
            (try simp at hz9)
            have X9 := Lib.hid (X3.out.below hb9)
            have Y9 := Lib.hid (Y3.out.below hb9)
            have HB9 := Lib.hid (HB3.out.trans (hb9.mono HB3.out.size))
            have y0 := Y9.out.cell 0
            have y1 := Y9.out.cell 1
            have y2 := Y9.out.cell 2
            have y3 := Y9.out.cell 3
            have y4 := Y9.out.cell 4
            have f0 := Y9.out.frozen 0
            have f1 := Y9.out.frozen 1
            have f2 := Y9.out.frozen 2
            have f3 := Y9.out.frozen 3
            have f4 := Y9.out.frozen 4
            have hy9 := Y9.out.lt
            dsimp only [R5.l, List.getElem?_cons_zero, List.getElem?_cons_succ] at y0 y1 y2 y3 y4
            generalize Rs.addE r0 r1 r2 r3 r4 n0 n1 n2 n3 n4 = E at HNx ⊢
            generalize Rs.sel E (r0 + n0) = s0 at HNx ⊢
            generalize Rs.sel E (r1 + n1) = s1 at HNx ⊢
            generalize Rs.sel E (r2 + n2) = s2 at HNx ⊢
            generalize Rs.sel E (r3 + n3) = s3 at HNx ⊢
            generalize Rs.sel E (r4 + n4) = s4 at HNx ⊢
            clear hb9 hc9 hf9 hz9
            go_wp2
            go_roundw
            case rel => exact ⟨k + 1, E, ⟨s0, s1, s2, s3, s4⟩, by omega, rfl, by go_num, HNx.out, ((((X9.out.other (by show ¬ _ = _; simp) _).other (by show ¬ _ = _; simp) _).other (by show ¬ _ = _; simp) _).other (by show ¬ _ = _; simp) _).other (by show ¬ _ = _; simp) _, ((((Y9.out.set 0 _).set 1 _).set 2 _).set 3 _).set 4 _, ((((HB9.out.setCell (Nat.le_succ _) _).setCell (Nat.le_succ _) _).setCell (Nat.le_succ _) _).setCell (Nat.le_succ _) _).setCell (Nat.le_succ _) _⟩
            case measure => simp [intOf]; omega
          · have q0 : (e == 0) = false := by simpa using he
            rw [if_neg he] at hnx
            have HNx := Lib.hid hnx
            have HZ := Lib.hid hz
            clear hnx hz he
            go_wp2_with (go_at_call 49; (with_reducible refine (resright_any n0 n1 n2 n3 n4 _).mono ?_); rw [HZ.out]; rintro e w3 ⟨rfl, hb3⟩; have HB3 := Lib.hid (HB.out.trans (hb3.mono hbz)); have X3 := Lib.hid (HX.out.below hb3); have Y3 := Lib.hid (HY.out.below hb3); clear hb3)
            go_roundw
            case rel => exact ⟨k + 1, e, ⟨r0, r1, r2, r3, r4⟩, by omega, rfl, by go_num, HNx.out, X3.out, Y3.out, HB3.out⟩
            case measure => simp [intOf]; omega
      · have q := str_no ho
        rw [if_neg ho] at hnx
        have HNx := Lib.hid hnx
        clear hnx ho
        go_wp2
        go_roundw
        case rel => exact ⟨k + 1, e, ⟨r0, r1, r2, r3, r4⟩, by omega, rfl, by go_num, HNx.out, HX.out, HY.out, HB.out⟩
        case measure => simp [intOf]; omega
    · obtain rfl : k = n := by omega
      have hL : U = (e, r) := by rw [hE, List.drop_eq_nil_of_le (by rw [HN.out]; exact Nat.le_refl _)]; rfl
      have HL := Lib.hid hL
      obtain ⟨r0, r1, r2, r3, r4⟩ := r
      have q0 := HX.out.cell 0
      have q1 := HX.out.cell 1
      have q2 := HX.out.cell 2
      have q3 := HX.out.cell 3
      have q4 := HX.out.cell 4
      have f0 := HX.out.frozen 0
      have f1 := HX.out.frozen 1
      have f2 := HX.out.frozen 2
      have f3 := HX.out.frozen 3
      have f4 := HX.out.frozen 4
      have y0 := HY.out.cell 0
      have y1 := HY.out.cell 1
      have y2 := HY.out.cell 2
      have y3 := HY.out.cell 3
      have y4 := HY.out.cell 4
      have hl3 := HX.out.lt
      dsimp only [R5.z, R5.l, List.getElem?_cons_zero, List.getElem?_cons_succ] at q0 q1 q2 q3 q4 y0 y1 y2 y3 y4
      clear hE hX hY hB hL
      go_wp2
      refine bodyPost_ret (v := .tuple #[R5.v ⟨r0, r1, r2, r3, r4⟩, .int .i64 e]) (by simp [results, Try.results28, go_sem, R5.v, R5.z, *]) rfl ⟨by rw [HL.out], (((((HB.out.setCell (Nat.le_refl _) _).setCell (Nat.le_refl _) _).setCell (Nat.le_refl _) _).setCell (Nat.le_refl _) _).setCell (Nat.le_refl _) _)⟩
def lstP (a b : R5) : R5 := ⟨Rs.leastC a.r0 a.r1 a.r2 a.r3 a.r4 b.r0 b.r1 b.r2 b.r3 b.r4 a.r0 b.r0, Rs.leastC a.r0 a.r1 a.r2 a.r3 a.r4 b.r0 b.r1 b.r2 b.r3 b.r4 a.r1 b.r1, Rs.leastC a.r0 a.r1 a.r2 a.r3 a.r4 b.r0 b.r1 b.r2 b.r3 b.r4 a.r2 b.r2, Rs.leastC a.r0 a.r1 a.r2 a.r3 a.r4 b.r0 b.r1 b.r2 b.r3 b.r4 a.r3 b.r3, Rs.leastC a.r0 a.r1 a.r2 a.r3 a.r4 b.r0 b.r1 b.r2 b.r3 b.r4 a.r4 b.r4⟩
def subEP (a b : R5) : Int := Rs.subE a.r0 a.r1 a.r2 a.r3 a.r4 b.r0 b.r1 b.r2 b.r3 b.r4
def subP (a b : R5) : R5 := ⟨Rs.sel (subEP a b) (a.r0 - b.r0), Rs.sel (subEP a b) (a.r1 - b.r1), Rs.sel (subEP a b) (a.r2 - b.r2), Rs.sel (subEP a b) (a.r3 - b.r3), Rs.sel (subEP a b) (a.r4 - b.r4)⟩
def hasM (m : Mac) : R5 := ⟨m.r0, m.r1, m.r2, m.r3, m.r4⟩
def leftY (m : Mac) (bs : List Bd) : R5 := if (usedY bs m.nm).1 = 0 then subP (hasM m) (lstP (hasM m) (usedY bs m.nm).2) else R5.z
def NewR (N : Nat) (u : Value) (w : World) : Prop := ∃ X, u = .pointer (some ⟨X, 0, none⟩) ∧ N ≤ X ∧ Blk w X 31 R5.z.l
theorem NewR.mk {W : World} (n : Held W) : NewR W.heap.size (.pointer (some ⟨n.w.heap.size, 0, none⟩)) (n.w.alloc (.cells #[.int .i64 0, .int .i64 0, .int .i64 0, .int .i64 0, .int .i64 0] 31)) := ⟨_, rfl, n.below.size, Blk.new _ 31 R5.z.l⟩
theorem NewR.stays (N : Nat) : Stays (NewR N) := fun v w w' hb ⟨X, e, h, hB⟩ => ⟨X, e, h, hB.below hb⟩

def zoneT : ByteArray := ⟨#[122, 111, 110, 101]⟩
def zoneA (out : List ByteArray) (m : Mac) : List ByteArray := if Lb.getB m.labs zoneT = true then (if m.rd = true then (if out.any (strB (Lb.getV m.labs zoneT)) = true then out else out ++ [Lb.getV m.labs zoneT]) else out) else out
/-- The zones there are. -/
def zonesY (ms : List Mac) : List ByteArray := ms.foldl zoneA []
theorem zonesY_next {ms : List Mac} {k : Nat} {m : Mac} (h : ms[k]? = some m) : zonesY (ms.take (k + 1)) = zoneA (zonesY (ms.take k)) m := by
  unfold zonesY
  rw [List.take_add_one, h, List.foldl_append]
  rfl
def GivesT (w : World) (L : List ByteArray) (e : Ending) (w' : World) : Prop := (∃ v, e = .returned v ∧ w'.ownsRow w.heap.size 9 1 v L.length (L.flatMap scs)) ∧ Below w.heap.size w w'
def labK : List Lab := [⟨⟨#[122, 111, 110, 101]⟩, ⟨#[97]⟩⟩]
def mK1 (B : Nat) : Mac := ⟨⟨#[109]⟩, emp, 1000, 0, 0, 3, 0, some ⟨B, 0, none⟩, 1, labK, none, 0, [], true⟩
def mK2 : Mac := ⟨⟨#[110]⟩, emp, 0, 0, 0, 0, 0, none, 0, [], none, 0, [], false⟩
def pK (nm : ByteArray) (c : Int) : Pd := ⟨nm, c, 0, 0, 1, 0, none, 0, [], none, 0, [], none, 0, [], none, 0, [], none, 0, [], none, 0, [], false, none, 0, [], 0, 0, emp, false, false, false⟩
def bK1 : Bd := ⟨pK ⟨#[112]⟩ 300, ⟨#[109]⟩⟩
def bK2 : Bd := ⟨pK ⟨#[113]⟩ 0, emp⟩
/-- The yard that known speaks of. -/
structure K9 (w : World) (B : Nat) : Prop where
  lb : LabL w (some ⟨B, 0, none⟩) labK
  ms : MacL w (some ⟨B + 1, 0, none⟩) [mK1 B, mK2]
  m1 : MacL w (some ⟨B + 1, 10, none⟩) [mK2]
  bs : BndL w (some ⟨B + 2, 0, none⟩) [bK1, bK2]
theorem K9.mono {w w' : World} {B : Nat} (h : K9 w B) (hb : Below w.heap.size w w') : K9 w' B := ⟨h.lb.mono hb, h.ms.mono hb, h.m1.mono hb, h.bs.mono hb⟩
theorem mK2_in (w : World) : MacIn w mK2 := ⟨⟨RowsAt.nil, RowsAt.nil, Nat.zero_le _, Nat.zero_le _⟩, fun _ => ⟨rfl, rfl⟩, Nat.le_refl _, fun _ => ⟨rfl, rfl⟩, Nat.le_refl _⟩
theorem K9.mac1 {w : World} {B : Nat} (h : K9 w B) : MacIn w (mK1 B) := ⟨⟨h.lb, RowsAt.nil, (by show 1 ≤ maxLen; decide), Nat.zero_le _⟩, (fun e => by cases e), Nat.le_refl _, fun _ => ⟨rfl, rfl⟩, Nat.le_refl _⟩
theorem K9.mac {w : World} {B : Nat} (h : K9 w B) : ∀ m ∈ [mK1 B, mK2], MacIn w m := fun m hm => by
  simp only [List.mem_cons, List.not_mem_nil, or_false] at hm
  rcases hm with rfl | rfl
  · exact h.mac1
  · exact mK2_in w
theorem pK_in (w : World) (nm : ByteArray) (c : Int) : PodIn w (pK nm c) := ⟨⟨RowsAt.nil, RowsAt.nil, RowsAt.nil, (fun t ht => by cases ht), RowsAt.nil, RowsAt.nil, RowsAt.nil, RowsAt.nil, Nat.zero_le _, Nat.zero_le _, Nat.zero_le _, Nat.zero_le _, Nat.zero_le _, Nat.zero_le _, Nat.zero_le _⟩, ⟨fun _ => ⟨rfl, rfl⟩, Nat.le_refl _⟩, ⟨fun _ => ⟨rfl, rfl⟩, Nat.le_refl _⟩, ⟨fun _ => ⟨rfl, rfl⟩, Nat.le_refl _⟩, ⟨fun _ => ⟨rfl, rfl⟩, Nat.le_refl _⟩, ⟨fun _ => ⟨rfl, rfl⟩, Nat.le_refl _⟩, ⟨fun _ => ⟨rfl, rfl⟩, Nat.le_refl _⟩, ⟨fun _ => ⟨rfl, rfl⟩, Nat.le_refl _⟩⟩
theorem bnd_K (w : World) : ∀ b ∈ [bK1, bK2], BndIn w b := fun b hb => by
  simp only [List.mem_cons, List.not_mem_nil, or_false] at hb
  rcases hb with rfl | rfl <;> exact pK_in w _ _
theorem mrow_len (m : Mac) : (mrow m).length = 10 := rfl
theorem K9.new (w : World) (t1 t2 t3 : TypeId) : K9 (((w.alloc (.cells (labK.flatMap kcs).toArray t1)).alloc (.cells ([mK1 w.heap.size, mK2].flatMap mrow).toArray t2)).alloc (.cells ([bK1, bK2].flatMap brow).toArray t3)) w.heap.size := by
  have b1 : Below (w.heap.size + 1) (w.alloc (.cells (labK.flatMap kcs).toArray t1)) ((w.alloc (.cells (labK.flatMap kcs).toArray t1)).alloc (.cells ([mK1 w.heap.size, mK2].flatMap mrow).toArray t2)) := (Below.refl _ _).alloc (by simp) _
  have b2 : Below (w.heap.size + 2) ((w.alloc (.cells (labK.flatMap kcs).toArray t1)).alloc (.cells ([mK1 w.heap.size, mK2].flatMap mrow).toArray t2)) (((w.alloc (.cells (labK.flatMap kcs).toArray t1)).alloc (.cells ([mK1 w.heap.size, mK2].flatMap mrow).toArray t2)).alloc (.cells ([bK1, bK2].flatMap brow).toArray t3)) := (Below.refl _ _).alloc (by simp) _
  have h1 := RowsAt.new kcs_len w labK t1
  have h2 := RowsAt.new mrow_len (w.alloc (.cells (labK.flatMap kcs).toArray t1)) [mK1 w.heap.size, mK2] t2
  have h3 := RowsAt.new brow_len ((w.alloc (.cells (labK.flatMap kcs).toArray t1)).alloc (.cells ([mK1 w.heap.size, mK2].flatMap mrow).toArray t2)) [bK1, bK2] t3
  rw [World.size_alloc] at h2 h3
  rw [World.size_alloc] at h3
  have h2' := h2.mono (w' := (((w.alloc (.cells (labK.flatMap kcs).toArray t1)).alloc (.cells ([mK1 w.heap.size, mK2].flatMap mrow).toArray t2)).alloc (.cells ([bK1, bK2].flatMap brow).toArray t3))) (by simpa using b2)
  refine ⟨(h1.mono (by simpa using b1)).mono (by simpa using b2), h2', ?_, h3⟩
  intro hp
  obtain ⟨b, o, e, hb, hc⟩ := h2' (Nat.succ_pos _)
  injection e with e
  injection e with e1 e2
  subst e1 e2
  refine ⟨w.heap.size + 1, 10, rfl, hb, fun k m hm j hj => ?_⟩
  have h9 := hc (k + 1) m (by simpa using hm) j hj
  rw [← h9]
  congr 2
  omega
set_option maxRecDepth 100000 in
theorem k_light (B : Nat) : lightM (mK1 B) = true ∧ lightM mK2 = true := ⟨rfl, by decide +kernel⟩
theorem k_lights (B : Nat) : ∀ m ∈ [mK1 B, mK2], lightM m = true := fun m hm => by
  simp only [List.mem_cons, List.not_mem_nil, or_false] at hm
  rcases hm with rfl | rfl
  · exact (k_light B).1
  · exact (k_light B).2
set_option maxRecDepth 100000 in
theorem k_lightb : ∀ b ∈ [bK1, bK2], lightP b.p = true := fun b hb => by
  simp only [List.mem_cons, List.not_mem_nil, or_false] at hb
  rcases hb with rfl | rfl <;> decide +kernel
set_option maxRecDepth 100000 in
theorem k_used : usedY [bK1, bK2] ⟨#[109]⟩ = (0, ⟨300, 0, 0, 1, 0⟩) := rfl
set_option maxRecDepth 100000 in
theorem k_left (B : Nat) : leftY (mK1 B) [bK1, bK2] = ⟨700, 0, 0, 2, 0⟩ := rfl
set_option maxRecDepth 100000 in
theorem k_check (B : Nat) : checkY [mK1 B, mK2] [bK1, bK2] = 0 := rfl
set_option maxRecDepth 100000 in
theorem k_check1 : checkY [mK2] [bK1, bK2] = 16 := by decide +kernel
theorem k_find (B : Nat) : findN ([mK1 B, mK2].map Mac.nm) ⟨#[110]⟩ 0 = 1 := by
  show findN [⟨#[109]⟩, ⟨#[110]⟩] _ 0 = 1
  decide +kernel
theorem k_place : findN ([bK1, bK2].map pnm) ⟨#[113]⟩ 0 = 1 := by decide +kernel
set_option maxRecDepth 100000 in
theorem k_on : (onL [bK1, bK2] ⟨#[109]⟩).length = 1 := by decide +kernel
set_option maxRecDepth 100000 in
theorem k_zones (B : Nat) : zonesY [mK1 B, mK2] = [⟨#[97]⟩] := rfl
end Go.Proofs.Ytkmhicoimgpdlaa
