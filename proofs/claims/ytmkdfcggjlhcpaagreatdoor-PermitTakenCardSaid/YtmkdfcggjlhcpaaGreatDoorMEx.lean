/-
  Machines and groups that came in; texts.
-/
import Derived.Test.YtmkdfcggjlhcpaaGreatDoorMDx
import Derived.Test.YtmkdfcggjlhcpaaGreatDoorMAx
namespace Go.Proofs.YtmkdfcggjlhcpaaGreatDoor
open Go.ChangeShapes Go.WideShapes Go.ChangeAt Go.RowKit
open Go.RowKit
set_option linter.unusedVariables false
set_option linter.unusedSimpArgs false
section
variable {α : Type} {enc : α → List Value} {K : Nat} {In : World → α → Prop}
theorem rows_val {W : World} {a : Option Addr} {l : List {x : α // In W x}} (h : RowsAt (fun x : {x : α // In W x} => enc x.1) K W a l) : RowsAt enc K W a (l.map Subtype.val) := fun h0 => by
  obtain ⟨b, off, e, hb, hc⟩ := h (by simpa using h0)
  refine ⟨b, off, e, hb, fun i x hx r hr => ?_⟩
  rw [List.getElem?_map] at hx
  cases hl : l[i]? with
  | none => rw [hl] at hx; cases hx
  | some y =>
    rw [hl] at hx
    cases hx
    exact hc i y hl r hr
end
theorem Tryz.cells35 : Tryz.prog.cellsOf 35 = 10 := by kernel_rfl
theorem Tryz.cells31 : Tryz.prog.cellsOf 31 = 5 := by kernel_rfl
theorem Tryz.cells114 : Tryz.prog.cellsOf 114 = 2 := by kernel_rfl
theorem Tryz.cells119 : Tryz.prog.cellsOf 119 = 3 := by kernel_rfl
theorem Tryz.cells9 : Tryz.prog.cellsOf 9 = 1 := by kernel_rfl
theorem Tryz.cells4 : Tryz.prog.cellsOf 4 = 1 := by kernel_rfl
theorem Tryz.cells32 : Tryz.prog.cellsOf 32 = 1 := by kernel_rfl
theorem Tryz.cells33 : Tryz.prog.cellsOf 33 = 1 := by kernel_rfl
theorem cells_int : Tryz.prog.cellsOf 3 = 1 := by kernel_rfl
set_option maxRecDepth 100000 in
theorem lab_open {H : Type} {enc : TypeId × Value → H} {W : World} {fuel : Nat} {cs : List Value} {y : DataW H × List MemPlace} (hl : cs.length = 2)
    (h : DataW.trod enc Tryz.prog W 0 (fun _ => true) true fuel 114 cs = some y) : ∃ x : Lab, cs = kcs x := by
  obtain ⟨xs, n, _, hx, _, hlen, hg⟩ := DataW.trod_struct Tryz.underlying114 h
  match cs, hl with
  | [c0, c1], _ =>
    match xs, hlen with
    | [y0, y1], _ =>
      have g0 := hg 0 _ rfl
      have g1 := hg 1 _ rfl
      obtain ⟨s0, q0, _⟩ := DataW.trod_string Tryz.underlying9 g0
      obtain ⟨s1, q1, _⟩ := DataW.trod_string Tryz.underlying9 g1
      simp [Tryz.cells9] at q0 q1
      exact ⟨⟨s0, s1⟩, by rw [q0, q1]; rfl⟩
set_option maxRecDepth 100000 in
theorem tnt_open {H : Type} {enc : TypeId × Value → H} {W : World} {fuel : Nat} {cs : List Value} {y : DataW H × List MemPlace} (hl : cs.length = 3)
    (h : DataW.trod enc Tryz.prog W 0 (fun _ => true) true fuel 119 cs = some y) : ∃ x : Tnt, cs = tcs x := by
  obtain ⟨xs, n, _, hx, _, hlen, hg⟩ := DataW.trod_struct Tryz.underlying119 h
  match cs, hl with
  | [c0, c1, c2], _ =>
    match xs, hlen with
    | [y0, y1, y2], _ =>
      have g0 := hg 0 _ rfl
      have g1 := hg 1 _ rfl
      have g2 := hg 2 _ rfl
      obtain ⟨s0, q0, _⟩ := DataW.trod_string Tryz.underlying9 g0
      obtain ⟨s1, q1, _⟩ := DataW.trod_string Tryz.underlying9 g1
      obtain ⟨n2, q2, _⟩ := DataW.trod_int Tryz.underlying3 g2
      simp [cells_int, Tryz.cells9] at q0 q1 q2
      exact ⟨⟨s0, s1, n2⟩, by rw [q0, q1, q2]; rfl⟩
def mrow (m : Mac) : List Value := [.string m.nm, .string m.gp, .int .i64 m.r0, .int .i64 m.r1, .int .i64 m.r2, .int .i64 m.r3, .int .i64 m.r4, .slice m.la m.labs.length m.lk, .slice m.ta m.tnts.length m.tk, .bool m.rd]
structure MacIn (w : World) (m : Mac) : Prop where
  here : MacAt w m
  ln : NilOk m.la m.labs.length m.lk
  lc : m.labs.length ≤ m.lk
  tn : NilOk m.ta m.tnts.length m.tk
  tc : m.tnts.length ≤ m.tk
theorem MacIn.mono {w w' : World} {m : Mac} (h : MacIn w m) (hb : Below w.heap.size w w') : MacIn w' m := ⟨h.here.mono hb, h.ln, h.lc, h.tn, h.tc⟩
set_option maxRecDepth 100000 in
theorem mac_open {H : Type} {enc : TypeId × Value → H} {W : World} {fuel : Nat} {cs : List Value} {y : DataW H × List MemPlace} (hl : cs.length = 10)
    (h : DataW.trod enc Tryz.prog W 0 (fun _ => true) true fuel 35 cs = some y) : ∃ m : Mac, cs = mrow m ∧ MacIn W m := by
  obtain ⟨zs, _, _, _, _, hlen3, hk⟩ := DataW.trod_struct Tryz.underlying35 h
  match cs, hl with
  | [c0, c1, c2, c3, c4, c5, c6, c7, c8, c9], _ =>
    match zs, hlen3 with
    | [z0, z1, z2, z3, z4, z5], _ =>
      have k0 := hk 0 _ rfl
      have k1 := hk 1 _ rfl
      have k2 := hk 2 _ rfl
      have k3 := hk 3 _ rfl
      have k4 := hk 4 _ rfl
      have k5 := hk 5 _ rfl
      obtain ⟨m0, r0, _⟩ := DataW.trod_string Tryz.underlying9 k0
      obtain ⟨m1, r1, _⟩ := DataW.trod_string Tryz.underlying9 k1
      obtain ⟨m5, r5, _⟩ := DataW.trod_bool Tryz.underlying4 k5
      obtain ⟨a3, l3, k3', r3⟩ := Go.Joins.slice_form Tryz.underlying32 k3
      obtain ⟨a4, l4, k4', r4⟩ := Go.Joins.slice_form Tryz.underlying33 k4
      rw [r3] at k3
      rw [r4] at k4
      obtain ⟨L, hL1, hL2, hL3⟩ := open_nested (K := 2) (enc := kcs) Tryz.underlying32 Tryz.cells114 (by decide) (fun cs fuel y hl h => lab_open hl h) k3
      obtain ⟨T, hT1, hT2, hT3⟩ := open_nested (K := 3) (enc := tcs) Tryz.underlying33 Tryz.cells119 (by decide) (fun cs fuel y hl h => tnt_open hl h) k4
      obtain ⟨hL4, hL5⟩ := nested_cap Tryz.underlying32 k3
      obtain ⟨hT4, hT5⟩ := nested_cap Tryz.underlying33 k4
      obtain ⟨us, _, _, _, _, hlen5, hv⟩ := DataW.trod_struct Tryz.underlying31 k2
      match us, hlen5 with
      | [u0, u1, u2, u3, u4], _ =>
        have v0 := hv 0 _ rfl
        have v1 := hv 1 _ rfl
        have v2 := hv 2 _ rfl
        have v3 := hv 3 _ rfl
        have v4 := hv 4 _ rfl
        obtain ⟨i0, p0, _⟩ := DataW.trod_int Tryz.underlying3 v0
        obtain ⟨i1, p1, _⟩ := DataW.trod_int Tryz.underlying3 v1
        obtain ⟨i2, p2, _⟩ := DataW.trod_int Tryz.underlying3 v2
        obtain ⟨i3, p3, _⟩ := DataW.trod_int Tryz.underlying3 v3
        obtain ⟨i4, p4, _⟩ := DataW.trod_int Tryz.underlying3 v4
        simp [cells_int, Tryz.cells9, Tryz.cells4, Tryz.cells32, Tryz.cells33, Tryz.cells31] at r0 r1 r3 r4 r5 p0 p1 p2 p3 p4
        subst hL1
        subst hT1
        exact ⟨⟨m0, m1, i0, i1, i2, i3, i4, a3, k3', L, a4, k4', T, m5⟩, by rw [r0, r1, r3, r4, r5, p0, p1, p2, p3, p4]; rfl, ⟨⟨hL2, hT2, hL3, hT3⟩, hL4, hL5, hT4, hT5⟩⟩
theorem Tryz.cells37 : Tryz.prog.cellsOf 37 = 15 := by kernel_rfl
structure Gp where
  nm : ByteArray
  mn : Int
  mx : Int
  like : Mac
  pr : Int
  rk : Int
def grow (g : Gp) : List Value := [.string g.nm, .int .i64 g.mn, .int .i64 g.mx] ++ mrow g.like ++ [.int .i64 g.pr, .int .i64 g.rk]
set_option maxRecDepth 100000 in
theorem grp_open {H : Type} {enc : TypeId × Value → H} {W : World} {fuel : Nat} {cs : List Value} {y : DataW H × List MemPlace} (hl : cs.length = 15)
    (h : DataW.trod enc Tryz.prog W 0 (fun _ => true) true fuel 37 cs = some y) : ∃ g : Gp, cs = grow g ∧ MacIn W g.like := by
  obtain ⟨xs, n, _, hx, _, hlen, hg⟩ := DataW.trod_struct Tryz.underlying37 h
  match cs, hl with
  | [c0, c1, c2, c3, c4, c5, c6, c7, c8, c9, c10, c11, c12, c13, c14], _ =>
    match xs, hlen with
    | [y0, y1, y2, y3, y4, y5], _ =>
      have g0 := hg 0 _ rfl
      have g1 := hg 1 _ rfl
      have g2 := hg 2 _ rfl
      have g3 := hg 3 _ rfl
      have g4 := hg 4 _ rfl
      have g5 := hg 5 _ rfl
      obtain ⟨s0, q0, _⟩ := DataW.trod_string Tryz.underlying9 g0
      obtain ⟨n1, q1, _⟩ := DataW.trod_int Tryz.underlying3 g1
      obtain ⟨n2, q2, _⟩ := DataW.trod_int Tryz.underlying3 g2
      obtain ⟨n4, q4, _⟩ := DataW.trod_int Tryz.underlying3 g4
      obtain ⟨n5, q5, _⟩ := DataW.trod_int Tryz.underlying3 g5
      simp [cells_int, Tryz.cells9, Tryz.cells35] at q0 q1 q2 q4 q5 g3
      obtain ⟨m, hm, hA⟩ := mac_open rfl g3
      have e : [c3, c4, c5, c6, c7, c8, c9, c10, c11, c12] = mrow m := hm
      refine ⟨⟨s0, n1, n2, m, n4, n5⟩, ?_, hA⟩
      show [c0, c1, c2] ++ [c3, c4, c5, c6, c7, c8, c9, c10, c11, c12] ++ [c13, c14] = _
      rw [e, q0, q1, q2, q4, q5]
      rfl
abbrev GpL := RowsAt grow 15
def scs (s : ByteArray) : List Value := [.string s]
theorem scs_len (s : ByteArray) : (scs s).length = 1 := rfl
theorem scs_one (s : ByteArray) : ∀ u ∈ scs s, u.oneCell' = true := by
  intro u hu
  obtain rfl : u = .string s := by simpa [scs] using hu
  rfl
abbrev TxtL := RowsAt scs 1
theorem txt_cell {w : World} {b o : Nat} {s : ByteArray} (h : ∀ r, r < 1 → w.cell? ⟨b, o + r, none⟩ = (scs s)[r]?) : w.cell? ⟨b, o, none⟩ = some (.string s) := h 0 (by decide)
theorem Tryz.info9 : (Tryz.prog.info? 9).map (fun i => (i.zero, i.size, i.bytes)) = some (some (.string ⟨#[]⟩), 1, 16) := by kernel_rfl
theorem take_eq {l m : List ByteArray} {k : Nat} {x y : ByteArray} (h1 : l[k]? = some x) (h2 : m[k]? = some y) (h : l.take k = m.take k) : (x = y → l.take (k + 1) = m.take (k + 1)) ∧ (x ≠ y → l ≠ m) :=
  ⟨fun e => by rw [take_at h1, take_at h2, h, e], fun e h3 => e (by rw [h3, h2] at h1; exact (Option.some.inj h1).symm)⟩
set_option maxRecDepth 100000 in
set_option maxHeartbeats 4000000 in
theorem texts_any (a b : Option Addr) (ka kb : Nat) (l m : List ByteArray) (w : World) (hF : TxtL w a l) (hG : TxtL w b m) (hl : l.length ≤ 1000000) (hm : m.length ≤ 1000000) :
    Calls Tryz.prog 16 #[.slice a l.length ka, .slice b m.length kb] w fun e w' => e = .returned (.bool (decide (l = m))) ∧ Below w.heap.size w w' := by
  have HF := Lib.hid hF
  have HG := Lib.hid hG
  clear hF hG
  by_cases hn : l.length = m.length
  · obtain ⟨n, hln⟩ : ∃ n, l.length = n := ⟨_, rfl⟩
    have hmn : m.length = n := by omega
    have Hln := Lib.hid hln
    have Hmn := Lib.hid hmn
    rw [hln] at hl ⊢
    rw [hmn] at hm ⊢
    clear hln hmn hn
    have hq : ((n : Int) != n) = false := by simp
    go_enter Tryz.func16, Tryz.ntmps16
    go_wp2
    go_loopw [5] (fun i wr => ∃ k : Nat, k ≤ n ∧ i = .int .i64 k ∧ l.take k = m.take k ∧ Below w.heap.size w wr) (fun i _ => n - (intOf i).toNat)
    case atStart => exact ⟨0, by omega, rfl, rfl, by (repeat' (first | with_reducible exact Below.refl _ _ | with_reducible assumption | with_reducible refine Below.drew ?_ | with_reducible refine below_drewN' ?_ _ | with_reducible refine Below.alloc ?_ ?_ _ | with_reducible refine Below.setCell ?_ ?_ _ | with_reducible refine below_step (by assumption) ?_ ?_ | omega | (simp; done) | (simp; omega)))⟩
    case round =>
      obtain ⟨k, hk, rfl, hE, hB⟩ := hrel
      obtain ⟨hcB, hfB⟩ := bcell hB
      have hbz := hB.size
      have HE := Lib.hid hE
      clear hE
      by_cases hlt : k < n
      · obtain ⟨x, hx⟩ := mem_at (l := l) (k := k) (by rw [Hln.out]; exact hlt)
        obtain ⟨y, hy⟩ := mem_at (l := m) (k := k) (by rw [Hmn.out]; exact hlt)
        obtain ⟨b1, o1, rfl, hb1, hc1⟩ := HF.out (by rw [Hln.out]; omega)
        obtain ⟨b2, o2, rfl, hb2, hc2⟩ := HG.out (by rw [Hmn.out]; omega)
        have c1 := txt_cell (hc1 k x hx)
        have c2 := txt_cell (hc2 k y hy)
        rw [Nat.mul_one] at c1 c2
        obtain ⟨hs1, hs2⟩ := take_eq hx hy HE.out
        have hbw1 : b1 < wr.heap.size := by omega
        have hbw2 : b2 < wr.heap.size := by omega
        clear hc1 hc2 hx hy
        by_cases he : x = y
        · have Hs := Lib.hid (hs1 he)
          have k1 := tnt_str he
          clear hs1 hs2 he
          go_wp2
          go_quiet (fail)
          go_wp2
          go_roundw
          case rel => exact ⟨k + 1, by omega, by go_num, Hs.out, by (repeat' (first | with_reducible exact Below.refl _ _ | with_reducible assumption | with_reducible refine Below.drew ?_ | with_reducible refine below_drewN' ?_ _ | with_reducible refine Below.alloc ?_ ?_ _ | with_reducible refine Below.setCell ?_ ?_ _ | with_reducible refine below_step (by assumption) ?_ ?_ | omega | (simp; done) | (simp; omega)))⟩
          case measure => simp [intOf]; omega
        · have Hs := Lib.hid (hs2 he)
          have k1 := tnt_strn he
          clear hs1 hs2 he
          go_wp2
          go_quiet (fail)
          go_wp2
          go_ret
          exact ⟨by rw [decide_eq_false Hs.out]; rfl, by (repeat' (first | with_reducible exact Below.refl _ _ | with_reducible assumption | with_reducible refine Below.drew ?_ | with_reducible refine below_drewN' ?_ _ | with_reducible refine Below.alloc ?_ ?_ _ | with_reducible refine Below.setCell ?_ ?_ _ | with_reducible refine below_step (by assumption) ?_ ?_ | omega | (simp; done) | (simp; omega)))⟩
      · obtain rfl : k = n := by omega
        have Hs := Lib.hid (show l = m from by
          have h := HE.out
          rwa [List.take_of_length_le (Nat.le_of_eq Hln.out), List.take_of_length_le (Nat.le_of_eq Hmn.out)] at h)
        go_wp2
        go_ret
        exact ⟨by rw [decide_eq_true Hs.out]; rfl, by (repeat' (first | with_reducible exact Below.refl _ _ | with_reducible assumption | with_reducible refine Below.drew ?_ | with_reducible refine below_drewN' ?_ _ | with_reducible refine Below.alloc ?_ ?_ _ | with_reducible refine Below.setCell ?_ ?_ _ | with_reducible refine below_step (by assumption) ?_ ?_ | omega | (simp; done) | (simp; omega)))⟩
  · have hne : l ≠ m := fun h => hn (by rw [h])
    rw [decide_eq_false hne]
    obtain ⟨n, hln⟩ : ∃ n, l.length = n := ⟨_, rfl⟩
    obtain ⟨n2, hmn⟩ : ∃ n2, m.length = n2 := ⟨_, rfl⟩
    rw [hln, hmn] at hn
    rw [hln] at hl ⊢
    rw [hmn] at hm ⊢
    have hq : ((n : Int) != n2) = true := by rw [bne_iff_ne]; omega
    clear hln hmn hne hn
    go_enter Tryz.func16, Tryz.ntmps16
    go_wp2
    go_ret
    exact ⟨rfl, by (repeat' (first | with_reducible exact Below.refl _ _ | with_reducible assumption | with_reducible refine Below.drew ?_ | with_reducible refine below_drewN' ?_ _ | with_reducible refine Below.alloc ?_ ?_ _ | with_reducible refine Below.setCell ?_ ?_ _ | with_reducible refine below_step (by assumption) ?_ ?_ | omega | (simp; done) | (simp; omega)))⟩
end Go.Proofs.YtmkdfcggjlhcpaaGreatDoor
