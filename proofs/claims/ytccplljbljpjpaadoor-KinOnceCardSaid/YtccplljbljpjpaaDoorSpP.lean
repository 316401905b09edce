/-
  A pod as text: the program's parts, joined, are the document's text.
-/
import Derived.Test.YtccplljbljpjpaaDoorShC
import Derived.Lib.Join
namespace Go.Proofs.YtccplljbljpjpaaDoor
open Go.RowKit
set_option linter.unusedVariables false
set_option linter.unusedSimpArgs false

abbrev lsL (a : ByteArray) : List UInt8 := a.data.toList
theorem ls_inj {a b : ByteArray} (h : lsL a = lsL b) : a = b := by
  obtain ⟨⟨a⟩⟩ := a
  obtain ⟨⟨b⟩⟩ := b
  simp only [lsL] at h
  rw [h]
theorem ls_app (a b : ByteArray) : lsL (a ++ b) = lsL a ++ lsL b := by
  show (a ++ b).data.toList = _
  rw [ByteArray.data_append, Array.toList_append]
/-- Texts, joined by blanks. -/
def joinB (P : List ByteArray) : ByteArray := ⟨(Lib.join (P.map (·.data.toList)) [32]).toArray⟩
/-- A List as text. -/
def fmB (P : List ByteArray) : ByteArray := (⟨#[40]⟩ ++ joinB P) ++ ⟨#[41]⟩
def tlB (P : List ByteArray) : List UInt8 := P.flatMap fun y => 32 :: lsL y
theorem tl_app (a b : List ByteArray) : tlB (a ++ b) = tlB a ++ tlB b := by unfold tlB; rw [List.flatMap_append]
theorem ls_join (x : ByteArray) (r : List ByteArray) : lsL (joinB (x :: r)) = lsL x ++ tlB r := by
  unfold joinB tlB
  show (Lib.join ((x :: r).map (·.data.toList)) [32]) = _
  rw [List.map_cons, Lib.join_cons]
  unfold Lib.joinTail
  congr 1
  rw [List.map_map, ← List.flatMap_def]
  rfl
theorem ls_fm (x : ByteArray) (r : List ByteArray) : lsL (fmB (x :: r)) = 40 :: (lsL x ++ (tlB r ++ [41])) := by
  unfold fmB
  rw [ls_app, ls_app, ls_join]
  show ([40] ++ (lsL x ++ tlB r)) ++ [41] = _
  simp
def lbP (nm : ByteArray) (l : List Lab) : List ByteArray := l.map fun x => fmB [nm, x.key, atB x.val]
def tmP (t : Lb.Trm) : ByteArray := fmB ([⟨#[116, 101, 114, 109]⟩, t.key, opsB t.op] ++ t.vals.map atB)
def beP (b : Tol) : ByteArray := if b.any = true then fmB [⟨#[98, 101, 97, 114, 97, 110, 121]⟩, atB b.key, efwB b.eff] else fmB [⟨#[98, 101, 97, 114]⟩, atB b.key, atB b.val, efwB b.eff]
def nuP (nm : ByteArray) (n : Int) : List ByteArray := if n = 0 then [] else [fmB [nm, itoaB n]]
def flP (nm : ByteArray) (b : Bool) : List ByteArray := if b = true then [nm] else []
def owP (s : ByteArray) : List ByteArray := if s = emp then [] else [fmB [⟨#[111, 119, 110, 101, 114]⟩, s]]
def partsP (p : Pd) : List ByteArray :=
  [⟨#[112, 111, 100]⟩, p.nm] ++ ([fmB [⟨#[110, 101, 101, 100]⟩, showM p.n0, showV p.n1, showV p.n2, itoaB p.n4]] ++ (lbP ⟨#[108, 97, 98, 101, 108]⟩ p.labs ++ (lbP ⟨#[115, 101, 108, 101, 99, 116]⟩ p.sels ++ (lbP ⟨#[97, 112, 97, 114, 116]⟩ p.aprs ++
  (p.trms.map tmP ++ (p.bers.map beP ++ (p.prts.flatMap (nuP ⟨#[112, 111, 114, 116]⟩) ++ (nuP ⟨#[115, 112, 114, 101, 97, 100]⟩ p.sw ++ (lbP ⟨#[111, 118, 101, 114]⟩ p.spds ++ (nuP ⟨#[114, 97, 110, 107]⟩ p.rk ++ (owP p.ow ++
  (flP ⟨#[119, 105, 100, 101]⟩ p.wd ++ (flP ⟨#[100, 97, 101, 109, 111, 110]⟩ p.dm ++ (flP ⟨#[112, 105, 110, 110, 101, 100]⟩ p.pn ++ flP ⟨#[108, 111, 99, 97, 108]⟩ p.lc))))))))))))))
theorem tl_one (x : ByteArray) : tlB [x] = 32 :: lsL x := by unfold tlB; simp
theorem tl_cons (x : ByteArray) (r : List ByteArray) : tlB (x :: r) = 32 :: (lsL x ++ tlB r) := by unfold tlB; simp
theorem tl_nil : tlB [] = [] := rfl
theorem ls_lit (l : Array UInt8) : lsL ⟨l⟩ = l.toList := rfl
theorem ls_emp : lsL emp = [] := rfl
theorem ls_pr (nm s : ByteArray) (x : Lab) : lsL (prS nm s x) = lsL s ++ tlB [fmB [nm, x.key, atB x.val]] := by
  unfold prS
  simp only [ls_app, tl_one, ls_fm, tl_cons, tl_nil, ls_lit, List.append_assoc, List.cons_append, List.nil_append, List.append_nil]
theorem ls_fold {α : Type} (f : ByteArray → α → ByteArray) (g : α → List ByteArray) (h : ∀ s x, lsL (f s x) = lsL s ++ tlB (g x)) : ∀ (l : List α) (s : ByteArray), lsL (l.foldl f s) = lsL s ++ tlB (l.flatMap g)
  | [], s => by simp [tlB]
  | x :: l, s => by
    rw [List.foldl_cons, ls_fold f g h l, h, List.flatMap_cons, tl_app, List.append_assoc]
theorem flat_one {α β : Type} (f : α → β) (l : List α) : l.flatMap (fun x => [f x]) = l.map f := by
  induction l with
  | nil => rfl
  | cons x l ih => rw [List.flatMap_cons, ih]; rfl
theorem ls_prB (nm : ByteArray) (l : List Lab) : lsL (prB nm l) = tlB (lbP nm l) := by
  unfold prB lbP
  rw [ls_fold (prS nm) (fun x => [fmB [nm, x.key, atB x.val]]) (ls_pr nm), flat_one, ls_emp, List.nil_append]
theorem ls_va (l : List ByteArray) (s : ByteArray) : lsL (l.foldl vaS s) = lsL s ++ tlB (l.map atB) := by
  rw [ls_fold vaS (fun x => [atB x]) (fun s x => by
    unfold vaS
    simp only [ls_app, tl_one, ls_lit, List.append_assoc, List.cons_append, List.nil_append]), flat_one]
theorem ls_tm (s : ByteArray) (t : Lb.Trm) : lsL (tmS s t) = lsL s ++ tlB [tmP t] := by
  unfold tmS tmP teS
  rw [ls_app, ls_va]
  simp only [ls_app, tl_one, List.cons_append, List.nil_append, ls_fm, tl_cons, tl_nil, ls_lit, List.append_assoc, List.append_nil]
theorem ls_be (s : ByteArray) (b : Tol) : lsL (beS s b) = lsL s ++ tlB [beP b] := by
  unfold beS beP
  split <;> simp only [ls_app, tl_one, ls_fm, tl_cons, tl_nil, ls_lit, List.append_assoc, List.cons_append, List.nil_append, List.append_nil]
theorem ls_nu (nm : ByteArray) (n : Int) : lsL (nuB nm n) = tlB (nuP nm n) := by
  unfold nuB nuP
  split
  · rfl
  · simp only [ls_app, tl_one, ls_fm, tl_cons, tl_nil, ls_lit, List.append_assoc, List.cons_append, List.nil_append, List.append_nil]
theorem ls_fl (nm : ByteArray) (b : Bool) : lsL (flB nm b) = tlB (flP nm b) := by
  unfold flB flP
  split
  · simp only [ls_app, tl_one, ls_lit, List.cons_append, List.nil_append]
  · rfl
theorem ls_po (s : ByteArray) (n : Int) : lsL (poS s n) = lsL s ++ tlB (nuP ⟨#[112, 111, 114, 116]⟩ n) := by
  unfold poS
  rw [ls_app, ls_nu]
theorem ls_r1 (p : Pd) : lsL (r1B p) = [40, 112, 111, 100, 32] ++ (lsL p.nm ++ (tlB [fmB [⟨#[110, 101, 101, 100]⟩, showM p.n0, showV p.n1, showV p.n2, itoaB p.n4]] ++ (tlB (lbP ⟨#[108, 97, 98, 101, 108]⟩ p.labs) ++ (tlB (lbP ⟨#[115, 101, 108, 101, 99, 116]⟩ p.sels) ++ (tlB (lbP ⟨#[97, 112, 97, 114, 116]⟩ p.aprs) ++ (tlB (p.trms.map tmP) ++ (tlB (p.bers.map beP) ++ (tlB (p.prts.flatMap (nuP ⟨#[112, 111, 114, 116]⟩)) ++ (tlB (nuP ⟨#[115, 112, 114, 101, 97, 100]⟩ p.sw) ++ (tlB (lbP ⟨#[111, 118, 101, 114]⟩ p.spds) ++ tlB (nuP ⟨#[114, 97, 110, 107]⟩ p.rk))))))))))) := by
  have h0 : lsL (hdB p) = [40, 112, 111, 100, 32] ++ (lsL p.nm ++ tlB [fmB [⟨#[110, 101, 101, 100]⟩, showM p.n0, showV p.n1, showV p.n2, itoaB p.n4]]) := by
    unfold hdB
    simp only [ls_app, tl_one, ls_fm, tl_cons, tl_nil, ls_lit, List.append_assoc, List.cons_append, List.nil_append, List.append_nil]
  unfold r1B p1B b1B t1B h2B
  rw [ls_app, ls_app, ls_app, ls_fold poS _ ls_po, ls_fold beS (fun b => [beP b]) ls_be, ls_fold tmS (fun t => [tmP t]) ls_tm, flat_one, flat_one, ls_app, ls_app, ls_app, h0, ls_nu, ls_nu, ls_prB, ls_prB, ls_prB, ls_prB]
  simp only [List.append_assoc]
theorem show_parts (p : Pd) : fmB (partsP p) = f1B p := by
  apply ls_inj
  have h1 : lsL (o1B p) = lsL (r1B p) ++ tlB (owP p.ow) := by
    unfold o1B owP
    split
    · rw [tl_nil, List.append_nil]
    · simp only [ls_app, tl_one, ls_fm, tl_cons, tl_nil, ls_lit, List.append_assoc, List.cons_append, List.nil_append, List.append_nil]
  unfold f1B
  rw [ls_app, ls_app, ls_app, ls_app, ls_app, ls_fl, ls_fl, ls_fl, ls_fl, h1, ls_r1]
  unfold partsP
  rw [List.cons_append, ls_fm]
  simp only [List.cons_append, List.nil_append, tl_cons, tl_app, tl_nil, ls_lit, List.append_assoc]
end Go.Proofs.YtccplljbljpjpaaDoor
