/-
  Groups that came in, with what their machines' labels and taints are.
-/
import Derived.Test.YtlgbbfaeclaghaaRefK
import Derived.Test.YtlgbbfaeclaghaaNest
import Derived.Test.YtlgbbfaeclaghaaSimC
namespace Go.Proofs.Ytlgbbfaeclaghaa
open Go.ChangeShapes Go.WideShapes Go.ChangeAt Go.RowKit
set_option linter.unusedVariables false

theorem Try.cells40 : Try.prog.cellsOf 40 = 15 := by kernel_rfl
theorem Try.cells38 : Try.prog.cellsOf 38 = 10 := by kernel_rfl
theorem Try.cells34 : Try.prog.cellsOf 34 = 5 := by kernel_rfl
theorem Try.cells44 : Try.prog.cellsOf 44 = 2 := by kernel_rfl
theorem Try.cells52 : Try.prog.cellsOf 52 = 3 := by kernel_rfl
theorem Try.cells9 : Try.prog.cellsOf 9 = 1 := by kernel_rfl
theorem Try.cells4 : Try.prog.cellsOf 4 = 1 := by kernel_rfl
theorem Try.cells35 : Try.prog.cellsOf 35 = 1 := by kernel_rfl
theorem Try.cells36 : Try.prog.cellsOf 36 = 1 := by kernel_rfl
theorem cells_int : Try.prog.cellsOf 3 = 1 := by kernel_rfl

theorem lab_open {H : Type} {enc : TypeId × Value → H} {W : World} {fuel : Nat} {cs : List Value} {y : DataW H × List MemPlace} (hl : cs.length = 2)
    (h : DataW.trod enc Try.prog W 0 (fun _ => true) true fuel 44 cs = some y) : ∃ x : Lab, cs = kcs x := by
  obtain ⟨xs, n, _, hx, _, hlen, hg⟩ := DataW.trod_struct Try.underlying44 h
  match cs, hl with
  | [c0, c1], _ =>
    match xs, hlen with
    | [y0, y1], _ =>
      have g0 := hg 0 _ rfl
      have g1 := hg 1 _ rfl
      obtain ⟨s0, q0, _⟩ := DataW.trod_string Try.underlying9 g0
      obtain ⟨s1, q1, _⟩ := DataW.trod_string Try.underlying9 g1
      simp [Try.cells9] at q0 q1
      exact ⟨⟨s0, s1⟩, by rw [q0, q1]; rfl⟩
theorem tnt_open {H : Type} {enc : TypeId × Value → H} {W : World} {fuel : Nat} {cs : List Value} {y : DataW H × List MemPlace} (hl : cs.length = 3)
    (h : DataW.trod enc Try.prog W 0 (fun _ => true) true fuel 52 cs = some y) : ∃ x : Tnt, cs = tcs x := by
  obtain ⟨xs, n, _, hx, _, hlen, hg⟩ := DataW.trod_struct Try.underlying52 h
  match cs, hl with
  | [c0, c1, c2], _ =>
    match xs, hlen with
    | [y0, y1, y2], _ =>
      have g0 := hg 0 _ rfl
      have g1 := hg 1 _ rfl
      have g2 := hg 2 _ rfl
      obtain ⟨s0, q0, _⟩ := DataW.trod_string Try.underlying9 g0
      obtain ⟨s1, q1, _⟩ := DataW.trod_string Try.underlying9 g1
      obtain ⟨n2, q2, _⟩ := DataW.trod_int Try.underlying3 g2
      simp [cells_int, Try.cells9] at q0 q1 q2
      exact ⟨⟨s0, s1, n2⟩, by rw [q0, q1, q2]; rfl⟩

/-- What a group's machine has. -/
structure GrpIn (W : World) (g : Grp) (L : List Lab) (T : List Tnt) : Prop where
  labs : LabL W g.la L
  tnts : TntsAt W g.ta T
  ll : L.length = g.ll
  tl : T.length = g.tl
  lm : g.ll ≤ maxLen
  tm : g.tl ≤ maxLen

theorem grp_open {H : Type} {enc : TypeId × Value → H} {W : World} {fuel : Nat} {cs : List Value} {y : DataW H × List MemPlace} (hl : cs.length = 15)
    (h : DataW.trod enc Try.prog W 0 (fun _ => true) true fuel 40 cs = some y) : ∃ (g : Grp) (L : List Lab) (T : List Tnt), cs = g.l ∧ GrpIn W g L T := by
  obtain ⟨xs, n, _, hx, _, hlen, hg⟩ := DataW.trod_struct Try.underlying40 h
  match cs, hl with
  | [c0, c1, c2, c3, c4, c5, c6, c7, c8, c9, c10, c11, c12, c13, c14], _ =>
    match xs, hlen with
    | [y0, y1, y2, y3, y4, y5], _ =>
      have g0 := hg 0 _ rfl
      have g1 := hg 1 _ rfl
      have g2 := hg 2 _ rfl
      have g3 := hg 3 _ rfl
      have g4 := hg 4 _ rfl
      have g5 := hg 5 _ rfl
      obtain ⟨s0, q0, _⟩ := DataW.trod_string Try.underlying9 g0
      obtain ⟨n1, q1, _⟩ := DataW.trod_int Try.underlying3 g1
      obtain ⟨n2, q2, _⟩ := DataW.trod_int Try.underlying3 g2
      obtain ⟨n4, q4, _⟩ := DataW.trod_int Try.underlying3 g4
      obtain ⟨n5, q5, _⟩ := DataW.trod_int Try.underlying3 g5
      obtain ⟨zs, _, _, _, _, hlen3, hk⟩ := DataW.trod_struct Try.underlying38 g3
      match zs, hlen3 with
      | [z0, z1, z2, z3, z4, z5], _ =>
        have k0 := hk 0 _ rfl
        have k1 := hk 1 _ rfl
        have k2 := hk 2 _ rfl
        have k3 := hk 3 _ rfl
        have k4 := hk 4 _ rfl
        have k5 := hk 5 _ rfl
        obtain ⟨m0, r0, _⟩ := DataW.trod_string Try.underlying9 k0
        obtain ⟨m1, r1, _⟩ := DataW.trod_string Try.underlying9 k1
        obtain ⟨m5, r5, _⟩ := DataW.trod_bool Try.underlying4 k5
        obtain ⟨a3, l3, k3', r3⟩ := Go.Joins.slice_form Try.underlying35 k3
        obtain ⟨a4, l4, k4', r4⟩ := Go.Joins.slice_form Try.underlying36 k4
        rw [r3] at k3
        rw [r4] at k4
        obtain ⟨L, hL1, hL2, hL3⟩ := open_nested (K := 2) (enc := kcs) Try.underlying35 Try.cells44 (by decide) (fun cs fuel y hl h => lab_open hl h) k3
        obtain ⟨T, hT1, hT2, hT3⟩ := open_nested (K := 3) (enc := tcs) Try.underlying36 Try.cells52 (by decide) (fun cs fuel y hl h => tnt_open hl h) k4
        obtain ⟨us, _, _, _, _, hlen5, hv⟩ := DataW.trod_struct Try.underlying34 k2
        match us, hlen5 with
        | [u0, u1, u2, u3, u4], _ =>
          have v0 := hv 0 _ rfl
          have v1 := hv 1 _ rfl
          have v2 := hv 2 _ rfl
          have v3 := hv 3 _ rfl
          have v4 := hv 4 _ rfl
          obtain ⟨i0, p0, _⟩ := DataW.trod_int Try.underlying3 v0
          obtain ⟨i1, p1, _⟩ := DataW.trod_int Try.underlying3 v1
          obtain ⟨i2, p2, _⟩ := DataW.trod_int Try.underlying3 v2
          obtain ⟨i3, p3, _⟩ := DataW.trod_int Try.underlying3 v3
          obtain ⟨i4, p4, _⟩ := DataW.trod_int Try.underlying3 v4
          simp [cells_int, Try.cells9, Try.cells4, Try.cells35, Try.cells36, Try.cells38, Try.cells34] at q0 q1 q2 q4 q5 r0 r1 r3 r4 r5 p0 p1 p2 p3 p4
          exact ⟨⟨s0, n1, n2, m0, m1, i0, i1, i2, i3, i4, a3, l3, k3', a4, l4, k4', m5, n4, n5⟩, L, T, by rw [q0, q1, q2, q4, q5, r0, r1, r3, r4, r5, p0, p1, p2, p3, p4]; rfl, ⟨hL2, hT2, hL1, hT1, hL3, hT3⟩⟩

def grp0 : Grp := ⟨⟨#[]⟩, 0, 0, ⟨#[]⟩, ⟨#[]⟩, 0, 0, 0, 0, 0, none, 0, 0, none, 0, 0, false, 0, 0⟩
theorem open_grps {H : Type} {enc : TypeId × Value → H} {W : World} {base : Nat} {v : Value} {d : DataW H} {p : List MemPlace}
    (hv : Value.okWide Try.prog W .any base 30 v) (h : DataW.Trod enc Try.prog W 0 (fun _ => true) true 30 v d p) :
    ∃ (a : Option Addr) (n k : Nat) (G : Nat → Grp) (L : Nat → List Lab) (T : Nat → List Tnt), v = .slice a n k ∧ GrpsAt W a n G ∧ n ≤ maxLen ∧ ∀ i, i < n → GrpIn W (G i) (L i) (T i) := by
  rcases open_rows Try.underlying30 Try.cells40 (by decide) hv h with rfl | ⟨a, cap, rfl⟩ | ⟨b, off, n, cap, rfl, hn, hnc, hcm, hb, hr⟩
  · exact ⟨none, 0, 0, fun _ => grp0, fun _ => [], fun _ => [], rfl, fun h => absurd h (Nat.lt_irrefl 0), Nat.zero_le _, fun i h => absurd h (Nat.not_lt_zero i)⟩
  · exact ⟨some a, 0, cap, fun _ => grp0, fun _ => [], fun _ => [], rfl, fun h => absurd h (Nat.lt_irrefl 0), Nat.zero_le _, fun i h => absurd h (Nat.not_lt_zero i)⟩
  · have hD : ∀ i, ∃ x : Grp × List Lab × List Tnt, i < n → (∀ r, r < 15 → W.cell? ⟨b, off + i * 15 + r, none⟩ = x.1.l[r]?) ∧ GrpIn W x.1 x.2.1 x.2.2 := by
      intro i
      by_cases hi : i < n
      · obtain ⟨cs, hl, hc, fuel, y, hy⟩ := hr i hi
        obtain ⟨g, L, T, rfl, hin⟩ := grp_open hl hy
        exact ⟨⟨g, L, T⟩, fun _ => ⟨hc, hin⟩⟩
      · exact ⟨⟨grp0, [], []⟩, fun h => absurd h hi⟩
    obtain ⟨D, hD⟩ := Classical.axiomOfChoice hD
    exact ⟨some ⟨b, off, none⟩, n, cap, fun i => (D i).1, fun i => (D i).2.1, fun i => (D i).2.2, rfl, fun _ => ⟨b, off, rfl, hb, fun i hi r hr => (hD i hi).1 r hr⟩, Nat.le_trans hnc hcm, fun i hi => (hD i hi).2⟩
end Go.Proofs.Ytlgbbfaeclaghaa
