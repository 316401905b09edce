/-
  The scanner of texts, in plain words: what each rune does, and what a whole text gives.
-/
import Derived.Test.YtaehcnoendieaaaDoorTcR
import Derived.Test.YtaehcnoendieaaaDoorMB
namespace Go.Proofs.YtaehcnoendieaaaDoor
open Go.RowKit
set_option linter.unusedVariables false
set_option linter.unusedSimpArgs false

/-- A token: its kind, its text, its place, line and column. -/
structure Tk where
  kd : Int
  tx : ByteArray
  po : Int
  ln : Int
  cl : Int
def tkrow (t : Tk) : List Value := [.int .i64 t.kd, .string t.tx, .int .i64 t.po, .int .i64 t.ln, .int .i64 t.cl]
theorem tkrow_len (t : Tk) : (tkrow t).length = 5 := rfl
/-- Where the scanner stands: its mode, the tokens, the one that has begun, its content, its runes, the next rune's line and column. -/
structure SC where
  md : Int
  tk : List Tk
  cu : Tk
  ct : List UInt8
  ru : Int
  ln : Int
  cl : Int
def toB (l : List UInt8) : ByteArray := ⟨l.toArray⟩
def chB (n : UInt8) : ByteArray := ⟨#[n]⟩
def blankR (r : Int) : Bool := decide (r = 32 ∨ r = 9 ∨ r = 10 ∨ r = 13)
/-- A rune that can't stand in a text in quotes. -/
def oddR (r : Int) : Bool := decide ((r < 32 ∧ r ≠ 9 ∧ r ≠ 10) ∨ r = 127)
def SC.add (s : SC) (k : Int) (x : ByteArray) : SC := { s with cu := { s.cu with kd := k, tx := x }, tk := s.tk ++ [{ s.cu with kd := k, tx := x }], md := 0 }
/-- A state, an error's number, and its place. -/
abbrev SR := SC × Int × Int
def SC.grow (s : SC) : SR := if 64 < s.ru + 1 then ({ s with ru := s.ru + 1 }, 4, s.cu.po) else ({ s with ru := s.ru + 1 }, 0, 0)
def SC.endW (s : SC) (src : ByteArray) (i : Int) : SC := s.add 3 (src.extract s.cu.po.toNat i.toNat)
def SC.at (s : SC) (i : Int) : SC := { s with cu := ⟨0, emp, i, s.ln, s.cl⟩ }
def SC.begin (s : SC) (i r : Int) : SR :=
  if r = 40 then ((s.at i).add 1 (chB 40), 0, 0)
  else if r = 41 then ((s.at i).add 2 (chB 41), 0, 0)
  else if r = 34 then ({ s.at i with md := 2, ct := [] }, 0, 0)
  else if r = 59 then ({ s.at i with md := 4 }, 0, 0)
  else if inW r = true then SC.grow { s.at i with md := 1, ru := 0 }
  else if blankR r = true then (s.at i, 0, 0)
  else (s.at i, 2, i)
def SC.inside (s : SC) (src : ByteArray) (i : Nat) (r : Int) : SR :=
  if r = 34 then (s.add 4 (toB s.ct), 0, 0)
  else if r = 92 then ({ s with md := 3 }, 0, 0)
  else if oddR r = true then (s, 2, i)
  else ({ s with ct := s.ct ++ (src.extract i (i + (Utf8.decode src i).2)).toList }, 0, 0)
def SC.esc (s : SC) (i r : Int) : SR :=
  if r = 110 then ({ s with ct := s.ct ++ [10], md := 2 }, 0, 0)
  else if r = 34 then ({ s with ct := s.ct ++ [34], md := 2 }, 0, 0)
  else if r = 92 then ({ s with ct := s.ct ++ [92], md := 2 }, 0, 0)
  else (s, 2, i - 1)
def SC.step (s : SC) (src : ByteArray) (i : Nat) (r : Int) : SR :=
  if s.md = 3 then s.esc i r
  else if badAt src i = true then (s, 2, i)
  else if s.md = 4 then (if r = 10 then ({ s with md := 0 }, 0, 0) else (s, 0, 0))
  else if s.md = 2 then s.inside src i r
  else if s.md = 1 then (if inW r = true then s.grow else (s.endW src i).begin i r)
  else s.begin i r
def SC.adv (s : SC) (r : Int) : SC := if r = 10 then { s with ln := s.ln + 1, cl := 1 } else { s with cl := s.cl + 1 }
/-- What comes of the end. -/
def SC.fin (s : SC) (src : ByteArray) : SR :=
  if s.md = 1 then (s.endW src src.size, 0, 0)
  else if s.md = 2 then (s, 3, s.cu.po)
  else if s.md = 3 then (s, 2, src.size - 1)
  else (s, 0, 0)
/-- Tokens, an error's number, its place. -/
abbrev ScanR := List Tk × Int × Int
def endR : SR → ScanR
  | (s, e, p) => if e = 0 then (s.tk, 0, 0) else ([], e, p)
def scanF (src : ByteArray) : Nat → Nat → SC → ScanR
  | 0, _, s => endR (s.fin src)
  | f + 1, pos, s =>
    if pos < src.size then
      (let q := s.step src pos ((Utf8.decode src pos).1 : Nat)
       if q.2.1 = 0 then scanF src f (pos + (Utf8.decode src pos).2) (q.1.adv ((Utf8.decode src pos).1 : Nat)) else ([], q.2.1, q.2.2))
    else endR (s.fin src)
def sc0 : SC := ⟨0, [], ⟨0, emp, 0, 0, 0⟩, [], 0, 1, 1⟩
def scanB (src : ByteArray) : ScanR := if 65536 < src.size then ([], 7, 65536) else scanF src src.size 0 sc0
end Go.Proofs.YtaehcnoendieaaaDoor
