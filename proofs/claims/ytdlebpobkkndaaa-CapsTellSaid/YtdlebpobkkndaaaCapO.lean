/-
  Machines and caps that came in.
-/
import Derived.Test.YtdlebpobkkndaaaCapK
namespace Go.Proofs.Ytdlebpobkkndaaa
open Go.ChangeShapes Go.WideShapes Go.ChangeAt Go.RowKit
set_option linter.unusedVariables false

theorem Try.cells30 : Try.prog.cellsOf 30 = 10 := by kernel_rfl
theorem Try.cells23 : Try.prog.cellsOf 23 = 3 := by kernel_rfl
theorem Try.cells26 : Try.prog.cellsOf 26 = 5 := by kernel_rfl
theorem Try.cells54 : Try.prog.cellsOf 54 = 2 := by kernel_rfl
theorem Try.cells59 : Try.prog.cellsOf 59 = 3 := by kernel_rfl
theorem Try.cells9 : Try.prog.cellsOf 9 = 1 := by kernel_rfl
theorem Try.cells4 : Try.prog.cellsOf 4 = 1 := by kernel_rfl
theorem Try.cells27 : Try.prog.cellsOf 27 = 1 := by kernel_rfl
theorem Try.cells28 : Try.prog.cellsOf 28 = 1 := by kernel_rfl
theorem cells_int : Try.prog.cellsOf 3 = 1 := by kernel_rfl

theorem lab_open {H : Type} {enc : TypeId × Value → H} {W : World} {fuel : Nat} {cs : List Value} {y : DataW H × List MemPlace} (hl : cs.length = 2)
    (h : DataW.trod enc Try.prog W 0 (fun _ => true) true fuel 54 cs = some y) : ∃ x : Lab, cs = kcs x := by
  obtain ⟨xs, n, _, hx, _, hlen, hg⟩ := DataW.trod_struct Try.underlying54 h
  match cs, hl with
  | [c0, c1], _ =>
    match xs, hlen with
    | [y0, y1], _ =>
      have g0 := hg 0 _ rfl
      have g1 := hg 1 _ rfl
      obtain ⟨s0, q0, _⟩ := DataW.trod_string Try.underlying9 g0
      obtain ⟨s1, q1, _⟩ := DataW.trod_string Try.underlying9 g1
      simp [Try.cells9] at q0 q1
      exact ⟨⟨s0, s1⟩, by rw [q0, q1]; rfl⟩
theorem tnt_open {H : Type} {enc : TypeId × Value → H} {W : World} {fuel : Nat} {cs : List Value} {y : DataW H × List MemPlace} (hl : cs.length = 3)
    (h : DataW.trod enc Try.prog W 0 (fun _ => true) true fuel 59 cs = some y) : ∃ x : Tnt, cs = tcs x := by
  obtain ⟨xs, n, _, hx, _, hlen, hg⟩ := DataW.trod_struct Try.underlying59 h
  match cs, hl with
  | [c0, c1, c2], _ =>
    match xs, hlen with
    | [y0, y1, y2], _ =>
      have g0 := hg 0 _ rfl
      have g1 := hg 1 _ rfl
      have g2 := hg 2 _ rfl
      obtain ⟨s0, q0, _⟩ := DataW.trod_string Try.underlying9 g0
      obtain ⟨s1, q1, _⟩ := DataW.trod_string Try.underlying9 g1
      obtain ⟨n2, q2, _⟩ := DataW.trod_int Try.underlying3 g2
      simp [cells_int, Try.cells9] at q0 q1 q2
      exact ⟨⟨s0, s1, n2⟩, by rw [q0, q1, q2]; rfl⟩

theorem mac_open {H : Type} {enc : TypeId × Value → H} {W : World} {fuel : Nat} {cs : List Value} {y : DataW H × List MemPlace} (hl : cs.length = 10)
    (h : DataW.trod enc Try.prog W 0 (fun _ => true) true fuel 30 cs = some y) : ∃ m : Mac, cs = mcs m ∧ MacAt W m := by
  obtain ⟨zs, _, _, _, _, hlen3, hk⟩ := DataW.trod_struct Try.underlying30 h
  match cs, hl with
  | [c0, c1, c2, c3, c4, c5, c6, c7, c8, c9], _ =>
    match zs, hlen3 with
    | [z0, z1, z2, z3, z4, z5], _ =>
      have k0 := hk 0 _ rfl
      have k1 := hk 1 _ rfl
      have k2 := hk 2 _ rfl
      have k3 := hk 3 _ rfl
      have k4 := hk 4 _ rfl
      have k5 := hk 5 _ rfl
      obtain ⟨m0, r0, _⟩ := DataW.trod_string Try.underlying9 k0
      obtain ⟨m1, r1, _⟩ := DataW.trod_string Try.underlying9 k1
      obtain ⟨m5, r5, _⟩ := DataW.trod_bool Try.underlying4 k5
      obtain ⟨a3, l3, k3', r3⟩ := Go.Joins.slice_form Try.underlying27 k3
      obtain ⟨a4, l4, k4', r4⟩ := Go.Joins.slice_form Try.underlying28 k4
      rw [r3] at k3
      rw [r4] at k4
      obtain ⟨L, hL1, hL2, hL3⟩ := open_nested (K := 2) (enc := kcs) Try.underlying27 Try.cells54 (by decide) (fun cs fuel y hl h => lab_open hl h) k3
      obtain ⟨T, hT1, hT2, hT3⟩ := open_nested (K := 3) (enc := tcs) Try.underlying28 Try.cells59 (by decide) (fun cs fuel y hl h => tnt_open hl h) k4
      obtain ⟨us, _, _, _, _, hlen5, hv⟩ := DataW.trod_struct Try.underlying26 k2
      match us, hlen5 with
      | [u0, u1, u2, u3, u4], _ =>
        have v0 := hv 0 _ rfl
        have v1 := hv 1 _ rfl
        have v2 := hv 2 _ rfl
        have v3 := hv 3 _ rfl
        have v4 := hv 4 _ rfl
        obtain ⟨i0, p0, _⟩ := DataW.trod_int Try.underlying3 v0
        obtain ⟨i1, p1, _⟩ := DataW.trod_int Try.underlying3 v1
        obtain ⟨i2, p2, _⟩ := DataW.trod_int Try.underlying3 v2
        obtain ⟨i3, p3, _⟩ := DataW.trod_int Try.underlying3 v3
        obtain ⟨i4, p4, _⟩ := DataW.trod_int Try.underlying3 v4
        simp [cells_int, Try.cells9, Try.cells4, Try.cells27, Try.cells28, Try.cells26] at r0 r1 r3 r4 r5 p0 p1 p2 p3 p4
        subst hL1
        subst hT1
        exact ⟨⟨m0, m1, i0, i1, i2, i3, i4, a3, k3', L, a4, k4', T, m5⟩, by rw [r0, r1, r3, r4, r5, p0, p1, p2, p3, p4]; rfl, ⟨hL2, hT2, hL3, hT3⟩⟩

theorem open_mac {H : Type} {enc : TypeId × Value → H} {W : World} {base : Nat} {v : Value} {d : DataW H} {p : List MemPlace}
    (hv : Value.okWide Try.prog W .any base 30 v) (h : DataW.Trod enc Try.prog W 0 (fun _ => true) true 30 v d p) :
    ∃ m : Mac, v = .agg #[.string (m).nm, .string (m).gp, .int .i64 (m).r0, .int .i64 (m).r1, .int .i64 (m).r2, .int .i64 (m).r3, .int .i64 (m).r4, .slice (m).la (m).labs.length (m).lk, .slice (m).ta (m).tnts.length (m).tk, .bool (m).rd] ∧ MacAt W m := by
  obtain ⟨cs, rfl, hsz⟩ := okWide_struct Try.underlying30 hv
  rw [Try.cells30] at hsz
  obtain ⟨fuel, hf⟩ := h
  obtain ⟨l⟩ := cs
  obtain ⟨m, hm, hA⟩ := mac_open (cs := l) hsz hf
  exact ⟨m, by rw [hm]; rfl, hA⟩
theorem caps_open {H : Type} {enc : TypeId × Value → H} {W : World} {fuel : Nat} {cs : List Value} {y : DataW H × List MemPlace} (hl : cs.length = 3)
    (h : DataW.trod enc Try.prog W 0 (fun _ => true) true fuel 23 cs = some y) : ∃ c0 c1 c2 : Int, cs = [.int .i64 c0, .int .i64 c1, .int .i64 c2] := by
  obtain ⟨xs, n, _, hx, _, hlen, hg⟩ := DataW.trod_struct Try.underlying23 h
  match cs, hl with
  | [c0, c1, c2], _ =>
    match xs, hlen with
    | [y0, y1, y2], _ =>
      have g0 := hg 0 _ rfl
      have g1 := hg 1 _ rfl
      have g2 := hg 2 _ rfl
      obtain ⟨n0, q0, _⟩ := DataW.trod_int Try.underlying3 g0
      obtain ⟨n1, q1, _⟩ := DataW.trod_int Try.underlying3 g1
      obtain ⟨n2, q2, _⟩ := DataW.trod_int Try.underlying3 g2
      simp [cells_int] at q0 q1 q2
      exact ⟨n0, n1, n2, by rw [q0, q1, q2]⟩
theorem open_caps {H : Type} {enc : TypeId × Value → H} {W : World} {base : Nat} {v : Value} {d : DataW H} {p : List MemPlace}
    (hv : Value.okWide Try.prog W .any base 23 v) (h : DataW.Trod enc Try.prog W 0 (fun _ => true) true 23 v d p) :
    ∃ c0 c1 c2 : Int, v = .agg #[.int .i64 c0, .int .i64 c1, .int .i64 c2] := by
  obtain ⟨cs, rfl, hsz⟩ := okWide_struct Try.underlying23 hv
  rw [Try.cells23] at hsz
  obtain ⟨fuel, hf⟩ := h
  obtain ⟨l⟩ := cs
  obtain ⟨c0, c1, c2, h⟩ := caps_open (cs := l) hsz hf
  exact ⟨c0, c1, c2, by rw [h]⟩
theorem open_macs {H : Type} {enc : TypeId × Value → H} {W : World} {base : Nat} {v : Value} {d : DataW H} {p : List MemPlace}
    (hv : Value.okWide Try.prog W .any base 24 v) (h : DataW.Trod enc Try.prog W 0 (fun _ => true) true 24 v d p) :
    ∃ (a : Option Addr) (l : List Mac) (k : Nat), v = .slice a l.length k ∧ NilOk a l.length k ∧ MacsAt W a l ∧ l.length ≤ maxLen ∧ ∀ x ∈ l, MacAt W x := by
  rcases open_rows Try.underlying24 Try.cells30 (by decide) hv h with rfl | ⟨a, cap, rfl⟩ | ⟨b, off, n, cap, rfl, hn, hnc, hcm, hb, hr⟩
  · exact ⟨none, [], 0, rfl, fun _ => ⟨rfl, rfl⟩, RowsAt.nil, Nat.zero_le _, fun x hx => by cases hx⟩
  · exact ⟨some a, [], cap, rfl, (fun h => by cases h), RowsAt.nil, Nat.zero_le _, fun x hx => by cases hx⟩
  · have hD : ∀ m, m ≤ n → ∃ l : List Mac, l.length = m ∧ (∀ i x, l[i]? = some x → ∀ j, j < 10 → W.cell? ⟨b, off + i * 10 + j, none⟩ = (mcs x)[j]?) ∧ ∀ x ∈ l, MacAt W x := by
      intro m
      induction m with
      | zero => exact fun _ => ⟨[], rfl, fun i x hx => by simp at hx, fun x hx => by cases hx⟩
      | succ m ih =>
        intro hm
        obtain ⟨l, hl, hc, hA⟩ := ih (by omega)
        obtain ⟨cs, hcl, hcs, fuel, y, hy⟩ := hr m (by omega)
        obtain ⟨x, rfl, hx⟩ := mac_open hcl hy
        refine ⟨l ++ [x], by simp [hl], fun i z hz j hj => ?_, fun z hz => ?_⟩
        · by_cases hi : i < l.length
          · rw [List.getElem?_append_left hi] at hz
            exact hc i z hz j hj
          · rw [List.getElem?_append_right (by omega)] at hz
            have h0 : i - l.length = 0 := by
              have := (List.getElem?_eq_some_iff.1 hz).1
              simp at this
              omega
            rw [h0] at hz
            obtain rfl : x = z := by simpa using hz
            obtain rfl : i = m := by omega
            exact hcs j hj
        · rcases List.mem_append.1 hz with h | h
          · exact hA z h
          · obtain rfl : z = x := by simpa using h
            exact hx
    obtain ⟨l, hl, hc, hA⟩ := hD n (Nat.le_refl n)
    subst hl
    exact ⟨some ⟨b, off, none⟩, l, cap, rfl, (fun h => by cases h), fun _ => ⟨b, off, rfl, hb, hc⟩, Nat.le_trans hnc hcm, hA⟩
end Go.Proofs.Ytdlebpobkkndaaa
