/-
  Suit: a case that came in.
-/
import Derived.Test.YthbpnfpalcgfeaaSu5
namespace Go.Proofs.Ythbpnfpalcgfeaa
open Go.ChangeShapes Go.WideShapes Go.ChangeAt Go.RowKit
set_option linter.unusedVariables false
set_option linter.unusedSimpArgs false

theorem Try.cells23 : Try.prog.cellsOf 23 = 1 := by kernel_rfl
theorem Try.cells49 : Try.prog.cellsOf 49 = 36 := by kernel_rfl
/-- A case's cells. -/
def crow (m : Mac) (a : Option Addr) (n k : Nat) (p : Pd) (i0 i1 i2 i3 i4 : Int) : List Value := mrow m ++ .slice a n k :: (prow p ++ [.int .i64 i0, .int .i64 i1, .int .i64 i2, .int .i64 i3, .int .i64 i4])
set_option maxRecDepth 100000 in
set_option maxHeartbeats 4000000 in
theorem case_open {H : Type} {enc : TypeId × Value → H} {W : World} {fuel : Nat} {cs : List Value} {y : DataW H × List MemPlace} (hl : cs.length = 36)
    (h : DataW.trod enc Try.prog W 0 (fun _ => true) true fuel 49 cs = some y) :
    ∃ (m : Mac) (a : Option Addr) (l : List Bd) (k : Nat) (p : Pd) (i0 i1 i2 i3 i4 : Int), cs = crow m a l.length k p i0 i1 i2 i3 i4 ∧ MacIn W m ∧ PodIn W p ∧ BndL W a l ∧ l.length ≤ maxLen ∧ ∀ x ∈ l, BndIn W x := by
  obtain ⟨zs, _, _, _, _, hlen3, hk⟩ := DataW.trod_struct Try.underlying49 h
  match cs, hl with
  | c0 :: c1 :: c2 :: c3 :: c4 :: c5 :: c6 :: c7 :: c8 :: c9 :: c10 :: c11 :: c12 :: c13 :: c14 :: c15 :: c16 :: c17 :: c18 :: c19 :: c20 :: c21 :: c22 :: c23 :: c24 :: c25 :: c26 :: c27 :: c28 :: c29 :: c30 :: c31 :: c32 :: c33 :: c34 :: c35 :: [], _ =>
    match zs, hlen3 with
    | [z0, z1, z2, z3], _ =>
      have k0 := hk 0 _ rfl
      have k1 := hk 1 _ rfl
      have k2 := hk 2 _ rfl
      have k3 := hk 3 _ rfl
      obtain ⟨a1, l1, k1', r1⟩ := Go.Joins.slice_form Try.underlying23 k1
      rw [r1] at k1
      obtain ⟨L, g1, g2, g3, g4⟩ := open_nested_in (K := 21) (enc := brow) (In := BndIn) Try.underlying23 Try.cells56 (by decide) (fun cs fuel y hl h => bnd_open hl h) k1
      obtain ⟨us, _, _, _, _, hlen5, hv⟩ := DataW.trod_struct Try.underlying29 k3
      match us, hlen5 with
      | [u0, u1, u2, u3, u4], _ =>
        have v0 := hv 0 _ rfl
        have v1 := hv 1 _ rfl
        have v2 := hv 2 _ rfl
        have v3 := hv 3 _ rfl
        have v4 := hv 4 _ rfl
        obtain ⟨i0, p0, _⟩ := DataW.trod_int Try.underlying3 v0
        obtain ⟨i1, p1, _⟩ := DataW.trod_int Try.underlying3 v1
        obtain ⟨i2, p2, _⟩ := DataW.trod_int Try.underlying3 v2
        obtain ⟨i3, p3, _⟩ := DataW.trod_int Try.underlying3 v3
        obtain ⟨i4, p4, _⟩ := DataW.trod_int Try.underlying3 v4
        simp [cells_int, Try.cells35, Try.cells47, Try.cells23, Try.cells29] at k0 k2 r1 p0 p1 p2 p3 p4
        obtain ⟨m, hm, hM⟩ := mac_open rfl k0
        obtain ⟨p, hp, hP⟩ := pod_open rfl k2
        subst g1
        refine ⟨m, a1, L, k1', p, i0, i1, i2, i3, i4, ?_, hM, hP, g2, g3, g4⟩
        show [c0, c1, c2, c3, c4, c5, c6, c7, c8, c9] ++ c10 :: ([c11, c12, c13, c14, c15, c16, c17, c18, c19, c20, c21, c22, c23, c24, c25, c26, c27, c28, c29, c30] ++ [c31, c32, c33, c34, c35]) = _
        rw [hm, hp, r1, p0, p1, p2, p3, p4]
        rfl
set_option maxRecDepth 100000 in
theorem open_case {H : Type} {enc : TypeId × Value → H} {W : World} {base : Nat} {v : Value} {d : DataW H} {q : List MemPlace}
    (hv : Value.okWide Try.prog W .any base 49 v) (h : DataW.Trod enc Try.prog W 0 (fun _ => true) true 49 v d q) :
    ∃ (m : Mac) (a : Option Addr) (l : List Bd) (k : Nat) (p : Pd) (i0 i1 i2 i3 i4 : Int), v = .agg (crow m a l.length k p i0 i1 i2 i3 i4).toArray ∧ MacIn W m ∧ PodIn W p ∧ BndL W a l ∧ l.length ≤ maxLen ∧ ∀ x ∈ l, BndIn W x := by
  obtain ⟨cs, rfl, hsz⟩ := okWide_struct Try.underlying49 hv
  rw [Try.cells49] at hsz
  obtain ⟨fuel, hf⟩ := h
  obtain ⟨l⟩ := cs
  obtain ⟨m, a, L, k, p, i0, i1, i2, i3, i4, e, h1, h2, h3, h4, h5⟩ := case_open (cs := l) hsz hf
  exact ⟨m, a, L, k, p, i0, i1, i2, i3, i4, by rw [e], h1, h2, h3, h4, h5⟩
/-- A case in a block of its own. -/
structure CB (w : World) (m : Mac) (c : Option Addr) (n kc : Nat) (p : Pd) (i0 i1 i2 i3 i4 : Int) (V : World) : Prop where
  bx : Box w.heap.size (crow m c n kc p i0 i1 i2 i3 i4) V
  bl : Below w.heap.size w V
theorem CB.mono {w V V' : World} {m : Mac} {c : Option Addr} {n kc : Nat} {p : Pd} {i0 i1 i2 i3 i4 : Int} (h : CB w m c n kc p i0 i1 i2 i3 i4 V) (hb : Below V.heap.size V V') : CB w m c n kc p i0 i1 i2 i3 i4 V' :=
  ⟨h.bx.mono hb, h.bl.trans (hb.mono h.bl.size)⟩
theorem CB.push {w V : World} {m : Mac} {c : Option Addr} {n kc : Nat} {p : Pd} {i0 i1 i2 i3 i4 : Int} (h : CB w m c n kc p i0 i1 i2 i3 i4 V) (o : Obj) : CB w m c n kc p i0 i1 i2 i3 i4 (V.alloc o) := h.mono ((Below.refl _ _).alloc (Nat.le_refl _) o)
theorem CB.set {w V : World} {m : Mac} {c : Option Addr} {n kc : Nat} {p : Pd} {i0 i1 i2 i3 i4 : Int} (h : CB w m c n kc p i0 i1 i2 i3 i4 V) {q : Addr} (hq : w.heap.size < q.block) (v : Value) : CB w m c n kc p i0 i1 i2 i3 i4 (V.setCell q v) := by
  have hb : Below (w.heap.size + 1) V (V.setCell q v) := (Below.refl _ _).setCell hq v
  exact ⟨⟨Nat.lt_of_lt_of_le h.bx.lt hb.size, fun i => by rw [hb.cell (p := ⟨w.heap.size, i, none⟩) (Nat.lt_succ_self _)]; exact h.bx.cell i⟩, h.bl.setCell (Nat.le_of_lt hq) v⟩
theorem CB.rm {w V : World} {m : Mac} {c : Option Addr} {n kc : Nat} {p : Pd} {i0 i1 i2 i3 i4 : Int} (h : CB w m c n kc p i0 i1 i2 i3 i4 V) : V.rangeAt w.heap.size 0 (mrow m) := fun j v hj => by
  have hj10 : j < 10 := (List.getElem?_eq_some_iff.1 hj).1
  rw [Nat.zero_add, h.bx.cell]
  unfold crow
  rw [List.getElem?_append_left hj10]
  exact hj
theorem CB.rp {w V : World} {m : Mac} {c : Option Addr} {n kc : Nat} {p : Pd} {i0 i1 i2 i3 i4 : Int} (h : CB w m c n kc p i0 i1 i2 i3 i4 V) : V.rangeAt w.heap.size 11 (prow p) := fun j v hj => by
  have hj20 : j < 20 := (List.getElem?_eq_some_iff.1 hj).1
  rw [h.bx.cell]
  unfold crow
  rw [List.getElem?_append_right (by show 10 ≤ 11 + j; omega), show 11 + j - (mrow m).length = j + 1 by show 11 + j - 10 = j + 1; omega, List.getElem?_cons_succ, List.getElem?_append_left hj20]
  exact hj
theorem CB.cb {w V : World} {m : Mac} {c : Option Addr} {n kc : Nat} {p : Pd} {i0 i1 i2 i3 i4 : Int} (h : CB w m c n kc p i0 i1 i2 i3 i4 V) : V.cell? ⟨w.heap.size, 10, none⟩ = some (.slice c n kc) := by rw [h.bx.cell]; rfl
end Go.Proofs.Ythbpnfpalcgfeaa
