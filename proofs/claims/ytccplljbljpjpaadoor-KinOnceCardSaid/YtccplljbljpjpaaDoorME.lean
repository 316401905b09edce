/-
  Machines and groups that came in; texts.
-/
import Derived.Test.YtccplljbljpjpaaDoorMD
import Derived.Test.YtccplljbljpjpaaDoorMA
namespace Go.Proofs.YtccplljbljpjpaaDoor
open Go.ChangeShapes Go.WideShapes Go.ChangeAt Go.RowKit
open Go.RowKit
set_option linter.unusedVariables false
set_option linter.unusedSimpArgs false

section
variable {α : Type} {enc : α → List Value} {K : Nat} {In : World → α → Prop}
theorem rows_val {W : World} {a : Option Addr} {l : List {x : α // In W x}} (h : RowsAt (fun x : {x : α // In W x} => enc x.1) K W a l) : RowsAt enc K W a (l.map Subtype.val) := fun h0 => by
  obtain ⟨b, off, e, hb, hc⟩ := h (by simpa using h0)
  refine ⟨b, off, e, hb, fun i x hx r hr => ?_⟩
  rw [List.getElem?_map] at hx
  cases hl : l[i]? with
  | none => rw [hl] at hx; cases hx
  | some y =>
    rw [hl] at hx
    cases hx
    exact hc i y hl r hr
/-- A slice that came in, as a list of what came in. -/
theorem open_list_in {H : Type} {ec : TypeId × Value → H} {P : Program} {W : World} {r : Reach} {base : Nat} {t e : TypeId} {v : Value} {d : DataW H} {p : List MemPlace}
    (ht : P.underlying t = some (.slice e)) (hE : P.cellsOf e = K) (hE0 : 0 < K)
    (hdec : ∀ (cs : List Value) (fuel : Nat) (y : DataW H × List MemPlace), cs.length = K → DataW.trod ec P W 0 (fun _ => true) true fuel e cs = some y → ∃ x, cs = enc x ∧ In W x)
    (hv : Value.okWide P W r base t v) (h : DataW.Trod ec P W 0 (fun _ => true) true t v d p) :
    ∃ a l k, v = .slice a l.length k ∧ NilOk a l.length k ∧ RowsAt enc K W a l ∧ l.length ≤ maxLen ∧ l.length ≤ k ∧ ∀ x ∈ l, In W x := by
  obtain ⟨a, l, k, h1, h2, h3, h4, h5⟩ := open_list (α := {x : α // In W x}) (enc := fun x => enc x.1) ht hE hE0 (fun cs fuel y hl hy => by
    obtain ⟨x, e, hx⟩ := hdec cs fuel y hl hy
    exact ⟨⟨x, hx⟩, e⟩) hv h
  have hm : (l.map Subtype.val).length = l.length := List.length_map ..
  refine ⟨a, l.map Subtype.val, k, by rw [hm]; exact h1, by rw [hm]; exact h2, rows_val h3, by rw [hm]; exact h4, by rw [hm]; exact h5, fun x hx => ?_⟩
  obtain ⟨y, _, rfl⟩ := List.mem_map.1 hx
  exact y.2
end

theorem Tryd.cells31 : Tryd.prog.cellsOf 31 = 5 := by kernel_rfl
theorem Tryd.cells67 : Tryd.prog.cellsOf 67 = 2 := by kernel_rfl
theorem Tryd.cells72 : Tryd.prog.cellsOf 72 = 3 := by kernel_rfl
theorem Tryd.cells9 : Tryd.prog.cellsOf 9 = 1 := by kernel_rfl
theorem Tryd.cells4 : Tryd.prog.cellsOf 4 = 1 := by kernel_rfl
theorem Tryd.cells33 : Tryd.prog.cellsOf 33 = 1 := by kernel_rfl
theorem Tryd.cells68 : Tryd.prog.cellsOf 68 = 1 := by kernel_rfl
theorem cells_int : Tryd.prog.cellsOf 3 = 1 := by kernel_rfl

set_option maxRecDepth 100000 in
theorem lab_open {H : Type} {enc : TypeId × Value → H} {W : World} {fuel : Nat} {cs : List Value} {y : DataW H × List MemPlace} (hl : cs.length = 2)
    (h : DataW.trod enc Tryd.prog W 0 (fun _ => true) true fuel 67 cs = some y) : ∃ x : Lab, cs = kcs x := by
  obtain ⟨xs, n, _, hx, _, hlen, hg⟩ := DataW.trod_struct Tryd.underlying67 h
  match cs, hl with
  | [c0, c1], _ =>
    match xs, hlen with
    | [y0, y1], _ =>
      have g0 := hg 0 _ rfl
      have g1 := hg 1 _ rfl
      obtain ⟨s0, q0, _⟩ := DataW.trod_string Tryd.underlying9 g0
      obtain ⟨s1, q1, _⟩ := DataW.trod_string Tryd.underlying9 g1
      simp [Tryd.cells9] at q0 q1
      exact ⟨⟨s0, s1⟩, by rw [q0, q1]; rfl⟩
set_option maxRecDepth 100000 in
theorem tnt_open {H : Type} {enc : TypeId × Value → H} {W : World} {fuel : Nat} {cs : List Value} {y : DataW H × List MemPlace} (hl : cs.length = 3)
    (h : DataW.trod enc Tryd.prog W 0 (fun _ => true) true fuel 72 cs = some y) : ∃ x : Tnt, cs = tcs x := by
  obtain ⟨xs, n, _, hx, _, hlen, hg⟩ := DataW.trod_struct Tryd.underlying72 h
  match cs, hl with
  | [c0, c1, c2], _ =>
    match xs, hlen with
    | [y0, y1, y2], _ =>
      have g0 := hg 0 _ rfl
      have g1 := hg 1 _ rfl
      have g2 := hg 2 _ rfl
      obtain ⟨s0, q0, _⟩ := DataW.trod_string Tryd.underlying9 g0
      obtain ⟨s1, q1, _⟩ := DataW.trod_string Tryd.underlying9 g1
      obtain ⟨n2, q2, _⟩ := DataW.trod_int Tryd.underlying3 g2
      simp [cells_int, Tryd.cells9] at q0 q1 q2
      exact ⟨⟨s0, s1, n2⟩, by rw [q0, q1, q2]; rfl⟩

def mrow (m : Mac) : List Value := [.string m.nm, .string m.gp, .int .i64 m.r0, .int .i64 m.r1, .int .i64 m.r2, .int .i64 m.r3, .int .i64 m.r4, .slice m.la m.labs.length m.lk, .slice m.ta m.tnts.length m.tk, .bool m.rd]
/-- A machine that came in. -/
structure MacIn (w : World) (m : Mac) : Prop where
  here : MacAt w m
  ln : NilOk m.la m.labs.length m.lk
  lc : m.labs.length ≤ m.lk
  tn : NilOk m.ta m.tnts.length m.tk
  tc : m.tnts.length ≤ m.tk
theorem MacIn.mono {w w' : World} {m : Mac} (h : MacIn w m) (hb : Below w.heap.size w w') : MacIn w' m := ⟨h.here.mono hb, h.ln, h.lc, h.tn, h.tc⟩
abbrev MacL := RowsAt mrow 10
structure Gp where
  nm : ByteArray
  mn : Int
  mx : Int
  like : Mac
  pr : Int
  rk : Int
def grow (g : Gp) : List Value := [.string g.nm, .int .i64 g.mn, .int .i64 g.mx] ++ mrow g.like ++ [.int .i64 g.pr, .int .i64 g.rk]
abbrev GpL := RowsAt grow 15
def scs (s : ByteArray) : List Value := [.string s]
theorem scs_len (s : ByteArray) : (scs s).length = 1 := rfl
theorem scs_one (s : ByteArray) : ∀ u ∈ scs s, u.oneCell' = true := by
  intro u hu
  obtain rfl : u = .string s := by simpa [scs] using hu
  rfl
abbrev TxtL := RowsAt scs 1
theorem txt_cell {w : World} {b o : Nat} {s : ByteArray} (h : ∀ r, r < 1 → w.cell? ⟨b, o + r, none⟩ = (scs s)[r]?) : w.cell? ⟨b, o, none⟩ = some (.string s) := h 0 (by decide)
theorem Tryd.info9 : (Tryd.prog.info? 9).map (fun i => (i.zero, i.size, i.bytes)) = some (some (.string ⟨#[]⟩), 1, 16) := by kernel_rfl
theorem map_rows {α : Type} (f : α → ByteArray) (l : List α) : (l.map f).flatMap scs = l.flatMap fun x => scs (f x) := by
  induction l with
  | nil => rfl
  | cons x l ih => simp [List.flatMap_cons, ih]
theorem OwnL.texts {α : Type} {f : α → ByteArray} {base : Nat} {t : TypeId} {l : List α} {v : Value} {w : World} (h : OwnL (fun x => scs (f x)) 1 base t l v w) : OwnL scs 1 base t (l.map f) v w := by
  unfold OwnL at h ⊢
  rw [map_rows, List.length_map]
  exact h

theorem take_eq {l m : List ByteArray} {k : Nat} {x y : ByteArray} (h1 : l[k]? = some x) (h2 : m[k]? = some y) (h : l.take k = m.take k) : (x = y → l.take (k + 1) = m.take (k + 1)) ∧ (x ≠ y → l ≠ m) :=
  ⟨fun e => by rw [take_at h1, take_at h2, h, e], fun e h3 => e (by rw [h3, h2] at h1; exact (Option.some.inj h1).symm)⟩

end Go.Proofs.YtccplljbljpjpaaDoor
