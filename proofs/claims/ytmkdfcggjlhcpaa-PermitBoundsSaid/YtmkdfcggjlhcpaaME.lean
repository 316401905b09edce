/-
  Machines and groups that came in; texts.
-/
import Derived.Test.YtmkdfcggjlhcpaaMD
import Derived.Test.YtmkdfcggjlhcpaaMA
namespace Go.Proofs.Ytmkdfcggjlhcpaa
open Go.ChangeShapes Go.WideShapes Go.ChangeAt Go.RowKit
open Go.RowKit
set_option linter.unusedVariables false
set_option linter.unusedSimpArgs false

section
variable {α : Type} {enc : α → List Value} {K : Nat} {In : World → α → Prop}
theorem rows_val {W : World} {a : Option Addr} {l : List {x : α // In W x}} (h : RowsAt (fun x : {x : α // In W x} => enc x.1) K W a l) : RowsAt enc K W a (l.map Subtype.val) := fun h0 => by
  obtain ⟨b, off, e, hb, hc⟩ := h (by simpa using h0)
  refine ⟨b, off, e, hb, fun i x hx r hr => ?_⟩
  rw [List.getElem?_map] at hx
  cases hl : l[i]? with
  | none => rw [hl] at hx; cases hx
  | some y =>
    rw [hl] at hx
    cases hx
    exact hc i y hl r hr
/-- A slice that came in, as a list of what came in. -/
theorem open_list_in {H : Type} {ec : TypeId × Value → H} {P : Program} {W : World} {r : Reach} {base : Nat} {t e : TypeId} {v : Value} {d : DataW H} {p : List MemPlace}
    (ht : P.underlying t = some (.slice e)) (hE : P.cellsOf e = K) (hE0 : 0 < K)
    (hdec : ∀ (cs : List Value) (fuel : Nat) (y : DataW H × List MemPlace), cs.length = K → DataW.trod ec P W 0 (fun _ => true) true fuel e cs = some y → ∃ x, cs = enc x ∧ In W x)
    (hv : Value.okWide P W r base t v) (h : DataW.Trod ec P W 0 (fun _ => true) true t v d p) :
    ∃ a l k, v = .slice a l.length k ∧ NilOk a l.length k ∧ RowsAt enc K W a l ∧ l.length ≤ maxLen ∧ l.length ≤ k ∧ ∀ x ∈ l, In W x := by
  obtain ⟨a, l, k, h1, h2, h3, h4, h5⟩ := open_list (α := {x : α // In W x}) (enc := fun x => enc x.1) ht hE hE0 (fun cs fuel y hl hy => by
    obtain ⟨x, e, hx⟩ := hdec cs fuel y hl hy
    exact ⟨⟨x, hx⟩, e⟩) hv h
  have hm : (l.map Subtype.val).length = l.length := List.length_map ..
  refine ⟨a, l.map Subtype.val, k, by rw [hm]; exact h1, by rw [hm]; exact h2, rows_val h3, by rw [hm]; exact h4, by rw [hm]; exact h5, fun x hx => ?_⟩
  obtain ⟨y, _, rfl⟩ := List.mem_map.1 hx
  exact y.2
end

theorem Try.cells47 : Try.prog.cellsOf 47 = 10 := by kernel_rfl
theorem Try.cells43 : Try.prog.cellsOf 43 = 5 := by kernel_rfl
theorem Try.cells99 : Try.prog.cellsOf 99 = 2 := by kernel_rfl
theorem Try.cells104 : Try.prog.cellsOf 104 = 3 := by kernel_rfl
theorem Try.cells9 : Try.prog.cellsOf 9 = 1 := by kernel_rfl
theorem Try.cells4 : Try.prog.cellsOf 4 = 1 := by kernel_rfl
theorem Try.cells44 : Try.prog.cellsOf 44 = 1 := by kernel_rfl
theorem Try.cells45 : Try.prog.cellsOf 45 = 1 := by kernel_rfl
theorem cells_int : Try.prog.cellsOf 3 = 1 := by kernel_rfl

set_option maxRecDepth 100000 in
theorem lab_open {H : Type} {enc : TypeId × Value → H} {W : World} {fuel : Nat} {cs : List Value} {y : DataW H × List MemPlace} (hl : cs.length = 2)
    (h : DataW.trod enc Try.prog W 0 (fun _ => true) true fuel 99 cs = some y) : ∃ x : Lab, cs = kcs x := by
  obtain ⟨xs, n, _, hx, _, hlen, hg⟩ := DataW.trod_struct Try.underlying99 h
  match cs, hl with
  | [c0, c1], _ =>
    match xs, hlen with
    | [y0, y1], _ =>
      have g0 := hg 0 _ rfl
      have g1 := hg 1 _ rfl
      obtain ⟨s0, q0, _⟩ := DataW.trod_string Try.underlying9 g0
      obtain ⟨s1, q1, _⟩ := DataW.trod_string Try.underlying9 g1
      simp [Try.cells9] at q0 q1
      exact ⟨⟨s0, s1⟩, by rw [q0, q1]; rfl⟩
set_option maxRecDepth 100000 in
theorem tnt_open {H : Type} {enc : TypeId × Value → H} {W : World} {fuel : Nat} {cs : List Value} {y : DataW H × List MemPlace} (hl : cs.length = 3)
    (h : DataW.trod enc Try.prog W 0 (fun _ => true) true fuel 104 cs = some y) : ∃ x : Tnt, cs = tcs x := by
  obtain ⟨xs, n, _, hx, _, hlen, hg⟩ := DataW.trod_struct Try.underlying104 h
  match cs, hl with
  | [c0, c1, c2], _ =>
    match xs, hlen with
    | [y0, y1, y2], _ =>
      have g0 := hg 0 _ rfl
      have g1 := hg 1 _ rfl
      have g2 := hg 2 _ rfl
      obtain ⟨s0, q0, _⟩ := DataW.trod_string Try.underlying9 g0
      obtain ⟨s1, q1, _⟩ := DataW.trod_string Try.underlying9 g1
      obtain ⟨n2, q2, _⟩ := DataW.trod_int Try.underlying3 g2
      simp [cells_int, Try.cells9] at q0 q1 q2
      exact ⟨⟨s0, s1, n2⟩, by rw [q0, q1, q2]; rfl⟩

def mrow (m : Mac) : List Value := [.string m.nm, .string m.gp, .int .i64 m.r0, .int .i64 m.r1, .int .i64 m.r2, .int .i64 m.r3, .int .i64 m.r4, .slice m.la m.labs.length m.lk, .slice m.ta m.tnts.length m.tk, .bool m.rd]
/-- A machine that came in. -/
structure MacIn (w : World) (m : Mac) : Prop where
  here : MacAt w m
  ln : NilOk m.la m.labs.length m.lk
  lc : m.labs.length ≤ m.lk
  tn : NilOk m.ta m.tnts.length m.tk
  tc : m.tnts.length ≤ m.tk
theorem MacIn.mono {w w' : World} {m : Mac} (h : MacIn w m) (hb : Below w.heap.size w w') : MacIn w' m := ⟨h.here.mono hb, h.ln, h.lc, h.tn, h.tc⟩
set_option maxRecDepth 100000 in
theorem mac_open {H : Type} {enc : TypeId × Value → H} {W : World} {fuel : Nat} {cs : List Value} {y : DataW H × List MemPlace} (hl : cs.length = 10)
    (h : DataW.trod enc Try.prog W 0 (fun _ => true) true fuel 47 cs = some y) : ∃ m : Mac, cs = mrow m ∧ MacIn W m := by
  obtain ⟨zs, _, _, _, _, hlen3, hk⟩ := DataW.trod_struct Try.underlying47 h
  match cs, hl with
  | [c0, c1, c2, c3, c4, c5, c6, c7, c8, c9], _ =>
    match zs, hlen3 with
    | [z0, z1, z2, z3, z4, z5], _ =>
      have k0 := hk 0 _ rfl
      have k1 := hk 1 _ rfl
      have k2 := hk 2 _ rfl
      have k3 := hk 3 _ rfl
      have k4 := hk 4 _ rfl
      have k5 := hk 5 _ rfl
      obtain ⟨m0, r0, _⟩ := DataW.trod_string Try.underlying9 k0
      obtain ⟨m1, r1, _⟩ := DataW.trod_string Try.underlying9 k1
      obtain ⟨m5, r5, _⟩ := DataW.trod_bool Try.underlying4 k5
      obtain ⟨a3, l3, k3', r3⟩ := Go.Joins.slice_form Try.underlying44 k3
      obtain ⟨a4, l4, k4', r4⟩ := Go.Joins.slice_form Try.underlying45 k4
      rw [r3] at k3
      rw [r4] at k4
      obtain ⟨L, hL1, hL2, hL3⟩ := open_nested (K := 2) (enc := kcs) Try.underlying44 Try.cells99 (by decide) (fun cs fuel y hl h => lab_open hl h) k3
      obtain ⟨T, hT1, hT2, hT3⟩ := open_nested (K := 3) (enc := tcs) Try.underlying45 Try.cells104 (by decide) (fun cs fuel y hl h => tnt_open hl h) k4
      obtain ⟨hL4, hL5⟩ := nested_cap Try.underlying44 k3
      obtain ⟨hT4, hT5⟩ := nested_cap Try.underlying45 k4
      obtain ⟨us, _, _, _, _, hlen5, hv⟩ := DataW.trod_struct Try.underlying43 k2
      match us, hlen5 with
      | [u0, u1, u2, u3, u4], _ =>
        have v0 := hv 0 _ rfl
        have v1 := hv 1 _ rfl
        have v2 := hv 2 _ rfl
        have v3 := hv 3 _ rfl
        have v4 := hv 4 _ rfl
        obtain ⟨i0, p0, _⟩ := DataW.trod_int Try.underlying3 v0
        obtain ⟨i1, p1, _⟩ := DataW.trod_int Try.underlying3 v1
        obtain ⟨i2, p2, _⟩ := DataW.trod_int Try.underlying3 v2
        obtain ⟨i3, p3, _⟩ := DataW.trod_int Try.underlying3 v3
        obtain ⟨i4, p4, _⟩ := DataW.trod_int Try.underlying3 v4
        simp [cells_int, Try.cells9, Try.cells4, Try.cells44, Try.cells45, Try.cells43] at r0 r1 r3 r4 r5 p0 p1 p2 p3 p4
        subst hL1
        subst hT1
        exact ⟨⟨m0, m1, i0, i1, i2, i3, i4, a3, k3', L, a4, k4', T, m5⟩, by rw [r0, r1, r3, r4, r5, p0, p1, p2, p3, p4]; rfl, ⟨⟨hL2, hT2, hL3, hT3⟩, hL4, hL5, hT4, hT5⟩⟩
set_option maxRecDepth 100000 in
theorem open_mac {H : Type} {enc : TypeId × Value → H} {W : World} {base : Nat} {v : Value} {d : DataW H} {p : List MemPlace}
    (hv : Value.okWide Try.prog W .any base 47 v) (h : DataW.Trod enc Try.prog W 0 (fun _ => true) true 47 v d p) :
    ∃ m : Mac, v = .agg (mrow m).toArray ∧ MacIn W m := by
  obtain ⟨cs, rfl, hsz⟩ := okWide_struct Try.underlying47 hv
  rw [Try.cells47] at hsz
  obtain ⟨fuel, hf⟩ := h
  obtain ⟨l⟩ := cs
  obtain ⟨m, hm, hA⟩ := mac_open (cs := l) hsz hf
  exact ⟨m, by rw [hm], hA⟩
abbrev MacL := RowsAt mrow 10
set_option maxRecDepth 100000 in
theorem open_macs {H : Type} {enc : TypeId × Value → H} {W : World} {base : Nat} {v : Value} {d : DataW H} {p : List MemPlace}
    (hv : Value.okWide Try.prog W .any base 110 v) (h : DataW.Trod enc Try.prog W 0 (fun _ => true) true 110 v d p) :
    ∃ (a : Option Addr) (l : List Mac) (k : Nat), v = .slice a l.length k ∧ NilOk a l.length k ∧ MacL W a l ∧ l.length ≤ maxLen ∧ l.length ≤ k ∧ ∀ x ∈ l, MacIn W x :=
  open_list_in Try.underlying110 Try.cells47 (by decide) (fun cs fuel y hl hy => mac_open hl hy) hv h
theorem Try.cells49 : Try.prog.cellsOf 49 = 15 := by kernel_rfl
structure Gp where
  nm : ByteArray
  mn : Int
  mx : Int
  like : Mac
  pr : Int
  rk : Int
def grow (g : Gp) : List Value := [.string g.nm, .int .i64 g.mn, .int .i64 g.mx] ++ mrow g.like ++ [.int .i64 g.pr, .int .i64 g.rk]
set_option maxRecDepth 100000 in
theorem grp_open {H : Type} {enc : TypeId × Value → H} {W : World} {fuel : Nat} {cs : List Value} {y : DataW H × List MemPlace} (hl : cs.length = 15)
    (h : DataW.trod enc Try.prog W 0 (fun _ => true) true fuel 49 cs = some y) : ∃ g : Gp, cs = grow g ∧ MacIn W g.like := by
  obtain ⟨xs, n, _, hx, _, hlen, hg⟩ := DataW.trod_struct Try.underlying49 h
  match cs, hl with
  | [c0, c1, c2, c3, c4, c5, c6, c7, c8, c9, c10, c11, c12, c13, c14], _ =>
    match xs, hlen with
    | [y0, y1, y2, y3, y4, y5], _ =>
      have g0 := hg 0 _ rfl
      have g1 := hg 1 _ rfl
      have g2 := hg 2 _ rfl
      have g3 := hg 3 _ rfl
      have g4 := hg 4 _ rfl
      have g5 := hg 5 _ rfl
      obtain ⟨s0, q0, _⟩ := DataW.trod_string Try.underlying9 g0
      obtain ⟨n1, q1, _⟩ := DataW.trod_int Try.underlying3 g1
      obtain ⟨n2, q2, _⟩ := DataW.trod_int Try.underlying3 g2
      obtain ⟨n4, q4, _⟩ := DataW.trod_int Try.underlying3 g4
      obtain ⟨n5, q5, _⟩ := DataW.trod_int Try.underlying3 g5
      simp [cells_int, Try.cells9, Try.cells47] at q0 q1 q2 q4 q5 g3
      obtain ⟨m, hm, hA⟩ := mac_open rfl g3
      have e : [c3, c4, c5, c6, c7, c8, c9, c10, c11, c12] = mrow m := hm
      refine ⟨⟨s0, n1, n2, m, n4, n5⟩, ?_, hA⟩
      show [c0, c1, c2] ++ [c3, c4, c5, c6, c7, c8, c9, c10, c11, c12] ++ [c13, c14] = _
      rw [e, q0, q1, q2, q4, q5]
      rfl
abbrev GpL := RowsAt grow 15
set_option maxRecDepth 100000 in
theorem open_grps {H : Type} {enc : TypeId × Value → H} {W : World} {base : Nat} {v : Value} {d : DataW H} {p : List MemPlace}
    (hv : Value.okWide Try.prog W .any base 22 v) (h : DataW.Trod enc Try.prog W 0 (fun _ => true) true 22 v d p) :
    ∃ (a : Option Addr) (l : List Gp) (k : Nat), v = .slice a l.length k ∧ NilOk a l.length k ∧ GpL W a l ∧ l.length ≤ maxLen ∧ l.length ≤ k ∧ ∀ x ∈ l, MacIn W x.like :=
  open_list_in (In := fun w (g : Gp) => MacIn w g.like) Try.underlying22 Try.cells49 (by decide) (fun cs fuel y hl hy => grp_open hl hy) hv h
set_option maxRecDepth 100000 in
theorem open_grp {H : Type} {enc : TypeId × Value → H} {W : World} {base : Nat} {v : Value} {d : DataW H} {p : List MemPlace}
    (hv : Value.okWide Try.prog W .any base 49 v) (h : DataW.Trod enc Try.prog W 0 (fun _ => true) true 49 v d p) :
    ∃ g : Gp, v = .agg (grow g).toArray ∧ MacIn W g.like := by
  obtain ⟨cs, rfl, hsz⟩ := okWide_struct Try.underlying49 hv
  rw [Try.cells49] at hsz
  obtain ⟨fuel, hf⟩ := h
  obtain ⟨l⟩ := cs
  obtain ⟨m, hm, hA⟩ := grp_open (cs := l) hsz hf
  exact ⟨m, by rw [hm], hA⟩
def scs (s : ByteArray) : List Value := [.string s]
theorem scs_len (s : ByteArray) : (scs s).length = 1 := rfl
theorem scs_one (s : ByteArray) : ∀ u ∈ scs s, u.oneCell' = true := by
  intro u hu
  obtain rfl : u = .string s := by simpa [scs] using hu
  rfl
abbrev TxtL := RowsAt scs 1
theorem txt_cell {w : World} {b o : Nat} {s : ByteArray} (h : ∀ r, r < 1 → w.cell? ⟨b, o + r, none⟩ = (scs s)[r]?) : w.cell? ⟨b, o, none⟩ = some (.string s) := h 0 (by decide)
theorem Try.info9 : (Try.prog.info? 9).map (fun i => (i.zero, i.size, i.bytes)) = some (some (.string ⟨#[]⟩), 1, 16) := by kernel_rfl
theorem map_rows {α : Type} (f : α → ByteArray) (l : List α) : (l.map f).flatMap scs = l.flatMap fun x => scs (f x) := by
  induction l with
  | nil => rfl
  | cons x l ih => simp [List.flatMap_cons, ih]
theorem OwnL.texts {α : Type} {f : α → ByteArray} {base : Nat} {t : TypeId} {l : List α} {v : Value} {w : World} (h : OwnL (fun x => scs (f x)) 1 base t l v w) : OwnL scs 1 base t (l.map f) v w := by
  unfold OwnL at h ⊢
  rw [map_rows, List.length_map]
  exact h

theorem take_eq {l m : List ByteArray} {k : Nat} {x y : ByteArray} (h1 : l[k]? = some x) (h2 : m[k]? = some y) (h : l.take k = m.take k) : (x = y → l.take (k + 1) = m.take (k + 1)) ∧ (x ≠ y → l ≠ m) :=
  ⟨fun e => by rw [take_at h1, take_at h2, h, e], fun e h3 => e (by rw [h3, h2] at h1; exact (Option.some.inj h1).symm)⟩

end Go.Proofs.Ytmkdfcggjlhcpaa
