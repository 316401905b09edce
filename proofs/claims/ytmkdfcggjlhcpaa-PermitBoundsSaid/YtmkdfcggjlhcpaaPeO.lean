/-
  States and calls that came in.
-/
import Derived.Test.YtmkdfcggjlhcpaaPeB
import Derived.Test.YtmkdfcggjlhcpaaME
import Derived.Test.YtmkdfcggjlhcpaaMA
namespace Go.Proofs.Ytmkdfcggjlhcpaa
open Go.ChangeShapes Go.WideShapes Go.ChangeAt Go.RowKit
set_option linter.unusedVariables false
set_option linter.unusedSimpArgs false

theorem cells_gps : Try.prog.cellsOf 22 = 1 := by kernel_rfl
theorem cells_ints : Try.prog.cellsOf 23 = 1 := by kernel_rfl
theorem cells_inss : Try.prog.cellsOf 24 = 1 := by kernel_rfl
theorem cells_txts : Try.prog.cellsOf 27 = 1 := by kernel_rfl
theorem cells_ins1 : Try.prog.cellsOf 51 = 5 := by kernel_rfl
theorem cells_caps : Try.prog.cellsOf 26 = 3 := by kernel_rfl
theorem cells_state : Try.prog.cellsOf 29 = 9 := by kernel_rfl
theorem cells_call : Try.prog.cellsOf 41 = 3 := by kernel_rfl
theorem open_nested_in {α : Type} {enc : α → List Value} {K : Nat} {In : World → α → Prop} {H : Type} {ec : TypeId × Value → H} {P : Program} {W : World} {t e : TypeId} {fuel : Nat} {a : Option Addr} {len cap : Nat} {y : DataW H × List MemPlace}
    (ht : P.underlying t = some (.slice e)) (hE : P.cellsOf e = K) (hE0 : 0 < K)
    (hdec : ∀ (cs : List Value) (fuel : Nat) (y : DataW H × List MemPlace), cs.length = K → DataW.trod ec P W 0 (fun _ => true) true fuel e cs = some y → ∃ x, cs = enc x ∧ In W x)
    (h : DataW.trod ec P W 0 (fun _ => true) true fuel t [.slice a len cap] = some y) :
    ∃ l : List α, l.length = len ∧ RowsAt enc K W a l ∧ len ≤ maxLen ∧ ∀ x ∈ l, In W x := by
  obtain ⟨l, h1, h2, h3⟩ := open_nested (α := {x : α // In W x}) (enc := fun x => enc x.1) ht hE hE0 (fun cs fuel y hl hy => by
    obtain ⟨x, e, hx⟩ := hdec cs fuel y hl hy
    exact ⟨⟨x, hx⟩, e⟩) h
  refine ⟨l.map Subtype.val, by rw [List.length_map]; exact h1, rows_val h2, h3, fun x hx => ?_⟩
  obtain ⟨y, _, rfl⟩ := List.mem_map.1 hx
  exact y.2
structure Cv where
  what : ByteArray
  nm : ByteArray
  n : Int
def cvrow (c : Cv) : List Value := [.string c.what, .string c.nm, .int .i64 c.n]
theorem cvrow_len (c : Cv) : (cvrow c).length = 3 := rfl
abbrev CvL := RowsAt cvrow 3
def CvIn (w : World) (c : Cv) : Prop := -9223372036854775808 ≤ c.n ∧ c.n ≤ 9223372036854775807
theorem cv_cells {w : World} {b o : Nat} {x : Cv} (h : ∀ r, r < 3 → w.cell? ⟨b, o + r, none⟩ = (cvrow x)[r]?) :
    w.cell? ⟨b, o, none⟩ = some (.string x.what) ∧ w.cell? ⟨b, o + 1, none⟩ = some (.string x.nm) ∧ w.cell? ⟨b, o + 2, none⟩ = some (.int .i64 x.n) :=
  ⟨h 0 (by decide), h 1 (by decide), h 2 (by decide)⟩
set_option maxRecDepth 100000 in
theorem call_open {H : Type} {enc : TypeId × Value → H} {W : World} {fuel : Nat} {cs : List Value} {y : DataW H × List MemPlace} (hl : cs.length = 3)
    (h : DataW.trod enc Try.prog W 0 (fun _ => true) true fuel 41 cs = some y) : ∃ x : Cv, cs = cvrow x ∧ CvIn W x := by
  obtain ⟨xs, n, _, hx, _, hlen, hg⟩ := DataW.trod_struct Try.underlying41 h
  match cs, hl with
  | [c0, c1, c2], _ =>
    match xs, hlen with
    | [y0, y1, y2], _ =>
      have g0 := hg 0 _ rfl
      have g1 := hg 1 _ rfl
      have g2 := hg 2 _ rfl
      obtain ⟨s0, q0, _⟩ := DataW.trod_string Try.underlying9 g0
      obtain ⟨s1, q1, _⟩ := DataW.trod_string Try.underlying9 g1
      obtain ⟨n2, q2, _, w2⟩ := DataW.trod_int Try.underlying3 g2
      simp [cells_int, Try.cells9] at q0 q1 q2
      refine ⟨⟨s0, s1, n2⟩, by rw [q0, q1, q2]; rfl, ?_⟩
      simpa [CvIn, Lit.wf, IntKind.min, IntKind.max, IntKind.signed, IntKind.bits] using w2
set_option maxRecDepth 100000 in
theorem open_calls {H : Type} {enc : TypeId × Value → H} {W : World} {base : Nat} {v : Value} {d : DataW H} {p : List MemPlace}
    (hv : Value.okWide Try.prog W .any base 30 v) (h : DataW.Trod enc Try.prog W 0 (fun _ => true) true 30 v d p) :
    ∃ (a : Option Addr) (l : List Cv) (k : Nat), v = .slice a l.length k ∧ NilOk a l.length k ∧ CvL W a l ∧ l.length ≤ maxLen ∧ l.length ≤ k ∧ ∀ x ∈ l, CvIn W x :=
  open_list_in (In := CvIn) Try.underlying30 cells_call (by decide) (fun cs fuel y hl hy => call_open hl hy) hv h
set_option maxRecDepth 100000 in
theorem ins_open {H : Type} {enc : TypeId × Value → H} {W : World} {fuel : Nat} {cs : List Value} {y : DataW H × List MemPlace} (hl : cs.length = 5)
    (h : DataW.trod enc Try.prog W 0 (fun _ => true) true fuel 51 cs = some y) : ∃ x : Ins, cs = irow x := by
  obtain ⟨xs, n, _, hx, _, hlen, hg⟩ := DataW.trod_struct Try.underlying51 h
  match cs, hl with
  | [c0, c1, c2, c3, c4], _ =>
    match xs, hlen with
    | [y0, y1, y2, y3, y4], _ =>
      have g0 := hg 0 _ rfl
      have g1 := hg 1 _ rfl
      have g2 := hg 2 _ rfl
      have g3 := hg 3 _ rfl
      have g4 := hg 4 _ rfl
      obtain ⟨s0, q0, _⟩ := DataW.trod_string Try.underlying9 g0
      obtain ⟨s1, q1, _⟩ := DataW.trod_string Try.underlying9 g1
      obtain ⟨n2, q2, _⟩ := DataW.trod_int Try.underlying3 g2
      obtain ⟨n3, q3, _⟩ := DataW.trod_int Try.underlying3 g3
      obtain ⟨n4, q4, _⟩ := DataW.trod_int Try.underlying3 g4
      simp [cells_int, Try.cells9] at q0 q1 q2 q3 q4
      exact ⟨⟨s0, s1, n2, n3, n4⟩, by rw [q0, q1, q2, q3, q4]; rfl⟩
theorem txt_open {H : Type} {enc : TypeId × Value → H} {W : World} {fuel : Nat} {cs : List Value} {y : DataW H × List MemPlace} (hl : cs.length = 1)
    (h : DataW.trod enc Try.prog W 0 (fun _ => true) true fuel 9 cs = some y) : ∃ x : ByteArray, cs = scs x := by
  obtain ⟨s, q, _⟩ := DataW.trod_string Try.underlying9 h
  exact ⟨s, q⟩
theorem int_open {H : Type} {enc : TypeId × Value → H} {W : World} {fuel : Nat} {cs : List Value} {y : DataW H × List MemPlace} (hl : cs.length = 1)
    (h : DataW.trod enc Try.prog W 0 (fun _ => true) true fuel 3 cs = some y) : ∃ x : Int, cs = pcs x := by
  obtain ⟨s, q, _⟩ := DataW.trod_int Try.underlying3 h
  exact ⟨s, q⟩
def srow (s : St) : List Value := [.slice s.ga s.C.length s.gk, .slice s.ta s.T.length s.tk, .slice s.ia s.L.length s.ik, .int .i64 s.c0, .int .i64 s.c1, .int .i64 s.c2, .slice s.ra s.R.length s.rk, .int .i64 s.un, .int .i64 s.sh]
set_option maxRecDepth 100000 in
set_option maxHeartbeats 4000000 in
theorem state_open {H : Type} {enc : TypeId × Value → H} {W : World} {fuel : Nat} {cs : List Value} {y : DataW H × List MemPlace} (hl : cs.length = 9)
    (h : DataW.trod enc Try.prog W 0 (fun _ => true) true fuel 29 cs = some y) :
    ∃ s : St, cs = srow s ∧ StIn W s ∧ s.C.length ≤ maxLen ∧ s.T.length ≤ maxLen ∧ s.L.length ≤ maxLen ∧ s.R.length ≤ maxLen := by
  obtain ⟨zs, _, _, _, _, hlen3, hk⟩ := DataW.trod_struct Try.underlying29 h
  match cs, hl with
  | [c0, c1, c2, c3, c4, c5, c6, c7, c8], _ =>
    match zs, hlen3 with
    | [z0, z1, z2, z3, z4, z5, z6], _ =>
      have k0 := hk 0 _ rfl
      have k1 := hk 1 _ rfl
      have k2 := hk 2 _ rfl
      have k3 := hk 3 _ rfl
      have k4 := hk 4 _ rfl
      have k5 := hk 5 _ rfl
      have k6 := hk 6 _ rfl
      obtain ⟨a0, l0, m0, r0⟩ := Go.Joins.slice_form Try.underlying22 k0
      rw [r0] at k0
      obtain ⟨C, g1, g2, g3, g4⟩ := open_nested_in (K := 15) (enc := grow) (In := fun w (g : Gp) => MacIn w g.like) Try.underlying22 Try.cells49 (by decide) (fun cs fuel y hl h => grp_open hl h) k0
      have gn := (nested_cap Try.underlying22 k0).1
      obtain ⟨a1, l1, m1, r1⟩ := Go.Joins.slice_form Try.underlying23 k1
      rw [r1] at k1
      obtain ⟨T, t1, t2, t3⟩ := open_nested (K := 1) (enc := pcs) Try.underlying23 cells_int (by decide) (fun cs fuel y hl h => int_open hl h) k1
      have tn := (nested_cap Try.underlying23 k1).1
      obtain ⟨a2, l2, m2, r2⟩ := Go.Joins.slice_form Try.underlying24 k2
      rw [r2] at k2
      obtain ⟨L, i1, i2, i3⟩ := open_nested (K := 5) (enc := irow) Try.underlying24 cells_ins1 (by decide) (fun cs fuel y hl h => ins_open hl h) k2
      have iN := (nested_cap Try.underlying24 k2).1
      obtain ⟨a3, l3, m3, r3⟩ := Go.Joins.slice_form Try.underlying27 k4
      rw [r3] at k4
      obtain ⟨R, s1, s2, s3⟩ := open_nested (K := 1) (enc := scs) Try.underlying27 Try.cells9 (by decide) (fun cs fuel y hl h => txt_open hl h) k4
      have rn := (nested_cap Try.underlying27 k4).1
      obtain ⟨us, _, _, _, _, hlen5, hv⟩ := DataW.trod_struct Try.underlying26 k3
      match us, hlen5 with
      | [u0, u1, u2], _ =>
        have v0 := hv 0 _ rfl
        have v1 := hv 1 _ rfl
        have v2 := hv 2 _ rfl
        obtain ⟨d0, p0, _⟩ := DataW.trod_int Try.underlying3 v0
        obtain ⟨d1, p1, _⟩ := DataW.trod_int Try.underlying3 v1
        obtain ⟨d2, p2, _⟩ := DataW.trod_int Try.underlying3 v2
        obtain ⟨d5, p5, _⟩ := DataW.trod_int Try.underlying3 k5
        obtain ⟨d6, p6, _⟩ := DataW.trod_int Try.underlying3 k6
        simp [cells_int, cells_gps, cells_ints, cells_inss, cells_txts, cells_caps] at r0 r1 r2 r3 p0 p1 p2 p5 p6
        subst g1 t1 i1 s1
        exact ⟨⟨a0, C, m0, a1, T, m1, a2, L, m2, d0, d1, d2, a3, R, m3, d5, d6⟩, by rw [r0, r1, r2, r3, p0, p1, p2, p5, p6]; rfl, ⟨g2, g4, t2, i2, s2, gn, tn, iN, rn⟩, g3, t3, i3, s3⟩
set_option maxRecDepth 100000 in
theorem open_state {H : Type} {enc : TypeId × Value → H} {W : World} {base : Nat} {v : Value} {d : DataW H} {q : List MemPlace}
    (hv : Value.okWide Try.prog W .any base 29 v) (h : DataW.Trod enc Try.prog W 0 (fun _ => true) true 29 v d q) :
    ∃ s : St, v = .agg #[.slice s.ga s.C.length s.gk, .slice s.ta s.T.length s.tk, .slice s.ia s.L.length s.ik, .int .i64 s.c0, .int .i64 s.c1, .int .i64 s.c2, .slice s.ra s.R.length s.rk, .int .i64 s.un, .int .i64 s.sh] ∧ StIn W s ∧ s.C.length ≤ maxLen ∧ s.T.length ≤ maxLen ∧ s.L.length ≤ maxLen ∧ s.R.length ≤ maxLen := by
  obtain ⟨cs, rfl, hsz⟩ := okWide_struct Try.underlying29 hv
  rw [cells_state] at hsz
  obtain ⟨fuel, hf⟩ := h
  obtain ⟨l⟩ := cs
  obtain ⟨s, e, h1⟩ := state_open (cs := l) hsz hf
  exact ⟨s, by rw [e]; rfl, h1⟩
end Go.Proofs.Ytmkdfcggjlhcpaa
