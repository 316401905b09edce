/-
  A provider, in plain words: groups, pools, instances; what each call answers, and leaves.
-/
import Derived.Test.YtmkdfcggjlhcpaaMH
import Derived.Test.YtmkdfcggjlhcpaaMF
namespace Go.Proofs.Ytmkdfcggjlhcpaa
open Go.RowKit
set_option linter.unusedVariables false
set_option linter.unusedSimpArgs false

structure Ins where
  nm : ByteArray
  gp : ByteArray
  st : Int
  lf : Int
  si : Int
def irow (x : Ins) : List Value := [.string x.nm, .string x.gp, .int .i64 x.st, .int .i64 x.lf, .int .i64 x.si]
abbrev InsL := RowsAt irow 5
theorem irow_len (x : Ins) : (irow x).length = 5 := rfl
theorem irow_cells {w : World} {b o : Nat} {x : Ins} (h : ∀ r, r < 5 → w.cell? ⟨b, o + r, none⟩ = (irow x)[r]?) :
    w.cell? ⟨b, o, none⟩ = some (.string x.nm) ∧ w.cell? ⟨b, o + 1, none⟩ = some (.string x.gp) ∧ w.cell? ⟨b, o + 2, none⟩ = some (.int .i64 x.st) ∧ w.cell? ⟨b, o + 3, none⟩ = some (.int .i64 x.lf) ∧ w.cell? ⟨b, o + 4, none⟩ = some (.int .i64 x.si) :=
  ⟨h 0 (by decide), h 1 (by decide), h 2 (by decide), h 3 (by decide), h 4 (by decide)⟩
/-- A group's name and bounds; what is known of it. -/
structure Gk where
  nm : ByteArray
  mn : Int
  mx : Int
structure Pl where
  t : Int
  la : Int
  br : Bool
structure CS where
  G : List Gk
  P : List Pl
  L : List Ins
  dl : Int
  nw : Int
  ca : Int
def gkOf (g : Gp) : Gk := ⟨g.nm, g.mn, g.mx⟩
/-- The name of the machine of that number. -/
def mnm (nm : ByteArray) (n : Int) : ByteArray := if 1 ≤ n ∧ n ≤ 999999999 then (nm ++ (⟨#[45]⟩ : ByteArray)) ++ dgB n.toNat else emp
def fndK : List Gk → ByteArray → Option Nat
  | [], _ => none
  | g :: l, s => if g.nm = s then some 0 else (fndK l s).map (· + 1)
theorem findA_off (s : ByteArray) : ∀ (l : List Gp) (i : Int), findA l s i = match fndK (l.map gkOf) s with | none => -1 | some j => i + j
  | [], i => rfl
  | g :: l, i => by
    have ih := findA_off s l (i + 1)
    unfold findA
    rw [List.map_cons]
    unfold fndK
    by_cases h : g.nm = s
    · rw [if_pos h, if_pos (by exact h)]
      simp
    · rw [if_neg h, if_neg (by exact h), ih]
      cases fndK (l.map gkOf) s with
      | none => rfl
      | some j =>
        show i + 1 + (j : Int) = i + ((j + 1 : Nat) : Int)
        omega
theorem findA_none {s : ByteArray} {l : List Gp} (h : fndK (l.map gkOf) s = none) : findA l s 0 = -1 := by rw [findA_off, h]
theorem findA_some {s : ByteArray} {l : List Gp} {j : Nat} (h : fndK (l.map gkOf) s = some j) : findA l s 0 = j := by rw [findA_off, h]; simp
theorem fndK_lt {s : ByteArray} : ∀ {l : List Gk} {j : Nat}, fndK l s = some j → ∃ g, l[j]? = some g ∧ g.nm = s
  | [], j, h => by simp [fndK] at h
  | g :: l, j, h => by
    unfold fndK at h
    by_cases e : g.nm = s
    · rw [if_pos e] at h
      obtain rfl := Option.some.inj h
      exact ⟨g, rfl, e⟩
    · rw [if_neg e] at h
      cases hk : fndK l s with
      | none => rw [hk] at h; simp at h
      | some k =>
        rw [hk] at h
        simp only [Option.map_some, Option.some.injEq] at h
        subst h
        obtain ⟨g2, h1, h2⟩ := fndK_lt hk
        exact ⟨g2, by simpa using h1, h2⟩
/-- The first instance of that name. -/
def fndI : List Ins → ByteArray → Option Nat
  | [], _ => none
  | x :: l, s => if x.nm = s then some 0 else (fndI l s).map (· + 1)
theorem fndI_lt {s : ByteArray} : ∀ {l : List Ins} {j : Nat}, fndI l s = some j → ∃ x, l[j]? = some x ∧ x.nm = s
  | [], j, h => by simp [fndI] at h
  | g :: l, j, h => by
    unfold fndI at h
    by_cases e : g.nm = s
    · rw [if_pos e] at h
      obtain rfl := Option.some.inj h
      exact ⟨g, rfl, e⟩
    · rw [if_neg e] at h
      cases hk : fndI l s with
      | none => rw [hk] at h; simp at h
      | some k =>
        rw [hk] at h
        simp only [Option.map_some, Option.some.injEq] at h
        subst h
        obtain ⟨g2, h1, h2⟩ := fndI_lt hk
        exact ⟨g2, by simpa using h1, h2⟩
/-- How many of a group are there or coming. -/
def sizeI (L : List Ins) (s : ByteArray) : Nat := L.countP fun x => decide (x.gp = s) && !decide (x.st = 3)
/-- So many more, behind a number. -/
def moreI (nm : ByteArray) (la : Int) (like : Ins) (n : Nat) : List Ins := (List.range n).map fun (k : Nat) => { like with nm := mnm nm (la + 1 + (k : Int)), gp := nm }
theorem moreI_succ (nm : ByteArray) (la : Int) (like : Ins) (n : Nat) : moreI nm la like (n + 1) = moreI nm la like n ++ [{ like with nm := mnm nm (la + 1 + n), gp := nm }] := by
  unfold moreI
  rw [List.range_succ, List.map_append]
  rfl
def CS.req (s : CS) (j : Nat) (g : Gk) (p : Pl) (like : Ins) (n : Nat) : CS := { s with P := s.P.set j ⟨p.t + n, p.la + n, p.br⟩, L := s.L ++ moreI g.nm p.la like n }
def CS.inc (s : CS) (nm : ByteArray) (n : Int) : CS × Int :=
  match fndK s.G nm with
  | none => (s, 16)
  | some j =>
    match s.G[j]?, s.P[j]? with
    | some g, some p => if n < 1 then (s, 1) else if g.mx - p.t < n then (s, 21) else if p.br then (s, 26) else ({ s.req j g p ⟨emp, emp, 1, s.dl, s.nw⟩ n.toNat with ca := s.ca + 1 }, 0)
    | _, _ => (s, 16)
def CS.del (s : CS) (nm : ByteArray) : CS × Int :=
  match fndI s.L nm with
  | none => (s, 16)
  | some k =>
    match s.L[k]? with
    | none => (s, 16)
    | some x =>
      match fndK s.G x.gp with
      | none => (s, 16)
      | some j =>
        match s.G[j]?, s.P[j]? with
        | some g, some p => if x.st = 3 then (s, 22) else if x.st = 2 ∧ p.t ≤ g.mn then (s, 20) else
          ({ s with L := s.L.set k { x with st := 3, lf := 1 }, P := s.P.set j ⟨max g.mn (p.t - 1), p.la, p.br⟩, ca := s.ca + 1 }, 0)
        | _, _ => (s, 16)
def CS.dec (s : CS) (nm : ByteArray) (n : Int) : CS × Int :=
  match fndK s.G nm with
  | none => (s, 16)
  | some j =>
    match s.G[j]?, s.P[j]? with
    | some g, some p => if n < 1 then (s, 1) else if p.t - n < g.mn ∨ p.t - n < sizeI s.L nm then (s, 20) else ({ s with P := s.P.set j ⟨p.t - n, p.la, p.br⟩, ca := s.ca + 1 }, 0)
    | _, _ => (s, 16)
def CS.brk (s : CS) (nm : ByteArray) (is : Bool) : CS × Int :=
  match fndK s.G nm with
  | none => (s, 16)
  | some j =>
    match s.P[j]? with
    | some p => ({ s with P := s.P.set j ⟨p.t, p.la, is⟩ }, 0)
    | none => (s, 16)
def CS.fail (s : CS) (nm : ByteArray) : CS × Int :=
  match fndI s.L nm with
  | none => (s, 16)
  | some k =>
    match s.L[k]? with
    | none => (s, 16)
    | some x => if x.st = 1 then ({ s with L := s.L.set k { x with st := 4, lf := 0 } }, 0) else (s, 22)
def CS.tgt (s : CS) (nm : ByteArray) : Int :=
  match fndK s.G nm with
  | none => 0
  | some j => match s.P[j]? with
    | some p => p.t
    | none => 0
def brOf (s : CS) (nm : ByteArray) : Bool :=
  match fndK s.G nm with
  | none => false
  | some j => match s.P[j]? with
    | some p => p.br
    | none => false
/-- What becomes of an instance within a tick. -/
def tickI (br : Bool) (x : Ins) : Option Ins :=
  if x.st = 3 then none else if x.st = 1 then (if x.lf - 1 = 0 then some { x with st := (if br then 4 else 2), lf := 0 } else some { x with lf := x.lf - 1 }) else some x
def CS.tick (s : CS) : CS := { s with nw := s.nw + 1, L := s.L.filterMap fun x => tickI (brOf s x.gp) x }
/-- What each call keeps. -/
structure CS.Ok (s : CS) (m : Nat) : Prop where
  ln : s.P.length = s.G.length
  g16 : s.G.length ≤ 16
  nd : (s.G.map Gk.nm).Nodup
  gb : ∀ g ∈ s.G, 0 ≤ g.mn ∧ g.mn ≤ g.mx ∧ 1 ≤ g.mx ∧ g.mx ≤ 200 ∧ g.nm.size ≤ 300
  tb : ∀ (j : Nat) (g : Gk) (p : Pl), s.G[j]? = some g → s.P[j]? = some p → g.mn ≤ p.t ∧ p.t ≤ g.mx ∧ 0 ≤ p.la ∧ p.la ≤ 200 * (m : Int)
  ib : ∀ x ∈ s.L, (∃ j, fndK s.G x.gp = some j) ∧ 0 ≤ x.lf ∧ x.lf ≤ 1000 ∧ (x.st = 1 → 1 ≤ x.lf) ∧ 1 ≤ x.st ∧ x.st ≤ 4 ∧ x.nm.size ≤ 1000 ∧ (x.st = 2 ∨ x.st = 4 → x.lf = 0) ∧ x.si ≤ s.nw ∧ 0 ≤ x.si
  lb : s.L.length ≤ 3200 * m
  db : 1 ≤ s.dl ∧ s.dl ≤ 1000
  nb : 0 ≤ s.nw ∧ s.nw ≤ m ∧ 0 ≤ s.ca ∧ s.ca ≤ m
end Go.Proofs.Ytmkdfcggjlhcpaa
