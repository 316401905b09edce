/-
  Fit in plain words: zones, who is near whom, counts, why.
-/
import Derived.Test.YthbpnfpalcgfeaaGreatNK
import Derived.Test.YthbpnfpalcgfeaaGreatNH
namespace Go.Proofs.YthbpnfpalcgfeaaGreat
open Go.RowKit
set_option linter.unusedVariables false
set_option linter.unusedSimpArgs false

/-- The machine of a name. -/
def mOf (ms : List Mac) (x : ByteArray) : Option Mac := ms.find? fun m => decide (m.nm = x)
theorem find_gen : ∀ (ms : List Mac) (x : ByteArray) (j : Nat), (findN (ms.map Mac.nm) x j = -1 ∧ mOf ms x = none) ∨ ∃ (k : Nat) (m : Mac), findN (ms.map Mac.nm) x j = ((j + k : Nat) : Int) ∧ ms[k]? = some m ∧ m.nm = x ∧ mOf ms x = some m
  | [], x, j => .inl ⟨rfl, rfl⟩
  | m :: ms, x, j => by
    by_cases h : m.nm = x
    · refine .inr ⟨0, m, ?_, rfl, h, ?_⟩
      · show (if m.nm = x then (j : Int) else _) = _
        rw [if_pos h]; rfl
      · unfold mOf
        exact List.find?_cons_of_pos (decide_eq_true h)
    · have e1 : findN ((m :: ms).map Mac.nm) x j = findN (ms.map Mac.nm) x (j + 1) := if_neg h
      have e2 : mOf (m :: ms) x = mOf ms x := by unfold mOf; exact List.find?_cons_of_neg (by simpa using h)
      rw [e1, e2]
      rcases find_gen ms x (j + 1) with h1 | ⟨k, y, h1, h2, h3, h4⟩
      · exact .inl h1
      · exact .inr ⟨k + 1, y, by rw [h1]; congr 1; omega, by simpa using h2, h3, h4⟩
theorem find_cases (ms : List Mac) (x : ByteArray) : (findN (ms.map Mac.nm) x 0 = -1 ∧ mOf ms x = none) ∨ ∃ (k : Nat) (m : Mac), findN (ms.map Mac.nm) x 0 = (k : Int) ∧ ms[k]? = some m ∧ m.nm = x ∧ mOf ms x = some m := by
  rcases find_gen ms x 0 with h | ⟨k, m, h1, h2⟩
  · exact .inl h
  · exact .inr ⟨k, m, by rw [h1, Nat.zero_add], h2⟩
/-- The zone of a machine, and whether it has one. -/
def zV (ms : List Mac) (x : ByteArray) : ByteArray := match mOf ms x with | none => emp | some m => Lb.getV m.labs zoneT
def zB (ms : List Mac) (x : ByteArray) : Bool := match mOf ms x with | none => false | some m => Lb.getB m.labs zoneT
def sameZ (ms : List Mac) (a b : ByteArray) : Bool := zB ms a && (zB ms b && decide (zV ms a = zV ms b))
def matB (b : Bd) (p : Pd) : Bool := !decide (b.on = emp) && !decide (b.p.nm = p.nm)
def awayB (ms : List Mac) (A : List Lab) (wd : Bool) (L : List Lab) (a b : ByteArray) : Bool := !decide (A.length = 0) && (Lb.hasP L A && (decide (a = b) || (wd && sameZ ms a b)))
def nearOf (ms : List Mac) (p : Pd) (on : ByteArray) (b : Bd) : Bool := matB b p && (awayB ms p.aprs p.wd b.p.labs on b.on || awayB ms b.p.aprs b.p.wd p.labs on b.on)
def nearB (ms : List Mac) (bs : List Bd) (p : Pd) (on : ByteArray) : Bool := (mOf ms on).isSome && bs.any (nearOf ms p on)
/-- Which pods it is to be spread with. -/
def onP (p : Pd) (b : Bd) : Bool := matB b p && Lb.hasP b.p.labs p.spds
def onQ (p : Pd) (x : ByteArray) (b : Bd) : Bool := onP p b && decide (b.on = x)
def onCnt (bs : List Bd) (p : Pd) (x : ByteArray) : Nat := (bs.filter (onQ p x)).length
def zAdd (f : ByteArray → Nat) (z : ByteArray) (n : Nat) (m : Mac) : Nat := if Lb.getB m.labs zoneT = true ∧ Lb.getV m.labs zoneT = z then n + f m.nm else n
def zCnt (ms : List Mac) (bs : List Bd) (p : Pd) (z : ByteArray) : Nat := ms.foldl (zAdd (onCnt bs p) z) 0
def numsC (ms : List Mac) (bs : List Bd) (p : Pd) : List Int := (zonesY ms).map fun z => (zCnt ms bs p z : Int)
def minS (m y : Int) : Int := if y < m then y else m
def minL : List Int → Int
  | [] => 0
  | x :: l => l.foldl minS x
def zNum (ms : List Mac) (bs : List Bd) (p : Pd) (on : ByteArray) : Int := (zCnt ms bs p (zV ms on) : Int) + (if Lb.hasP p.labs p.spds = true then 1 else 0)
def manyB (ms : List Mac) (bs : List Bd) (p : Pd) (on : ByteArray) : Bool :=
  if p.spds.length = 0 then false else if (mOf ms on).isNone = true then false else if zB ms on = true ∧ (zonesY ms).any (strB (zV ms on)) = true then decide (p.sw < zNum ms bs p on - minL (numsC ms bs p)) else true
def apartW (ms : List Mac) (bs : List Bd) (p : Pd) (on : ByteArray) : Int := if nearB ms bs p on = true then 7 else if manyB ms bs p on = true then 8 else 0
/-- Why a pod can't run on a machine. -/
def whyF (ms : List Mac) (bs : List Bd) (p : Pd) (on : ByteArray) : Int := match mOf ms on with
  | none => 1
  | some m => if suitS m bs p = 0 then apartW ms bs p on else suitS m bs p
def whereF (ms : List Mac) (bs : List Bd) (p : Pd) : List ByteArray := (ms.filter fun m => decide (whyF ms bs p m.nm = 0)).map Mac.nm
def tallyF (ms : List Mac) (bs : List Bd) (p : Pd) (r : Int) : Nat := (ms.filter fun m => decide (whyF ms bs p m.nm = r)).length
def feasB (ms : List Mac) (bs : List Bd) (b : Bd) : Bool := decide (b.on = emp) || decide (whyF ms bs b.p b.on = 0)
def feasF (ms : List Mac) (bs : List Bd) : Bool := bs.all (feasB ms bs)
theorem suitS_range (m : Mac) (bs : List Bd) (p : Pd) : 0 ≤ suitS m bs p ∧ suitS m bs p ≤ 6 := by
  unfold suitS roomS placeS
  repeat' split
  all_goals omega
theorem apartW_range (ms : List Mac) (bs : List Bd) (p : Pd) (on : ByteArray) : 0 ≤ apartW ms bs p on ∧ apartW ms bs p on ≤ 8 := by
  unfold apartW
  repeat' split
  all_goals omega
theorem whyF_range (ms : List Mac) (bs : List Bd) (p : Pd) (on : ByteArray) : 0 ≤ whyF ms bs p on ∧ whyF ms bs p on ≤ 8 := by
  unfold whyF
  split
  · omega
  · rename_i m _
    split
    · exact apartW_range ms bs p on
    · have := suitS_range m bs p
      omega
theorem zonesY_len (ms : List Mac) : (zonesY ms).length ≤ ms.length := by
  have : ∀ (l : List Mac) (out : List ByteArray), (l.foldl zoneA out).length ≤ out.length + l.length := by
    intro l
    induction l with
    | nil => intro out; simp
    | cons m l ih =>
      intro out
      have h1 := ih (zoneA out m)
      have h2 : (zoneA out m).length ≤ out.length + 1 := by
        unfold zoneA
        repeat' split
        all_goals (try rw [List.length_append])
        all_goals (try simp only [List.length_cons, List.length_nil])
        all_goals omega
      rw [List.foldl_cons, List.length_cons]
      omega
  have h := this ms []
  unfold zonesY
  simpa using h
theorem onCnt_len (bs : List Bd) (p : Pd) (x : ByteArray) : onCnt bs p x ≤ bs.length := List.length_filter_le _ _
theorem zCnt_le (ms : List Mac) (bs : List Bd) (p : Pd) (z : ByteArray) : zCnt ms bs p z ≤ ms.length * bs.length := by
  have : ∀ (l : List Mac) (n : Nat), l.foldl (zAdd (onCnt bs p) z) n ≤ n + l.length * bs.length := by
    intro l
    induction l with
    | nil => intro n; simp
    | cons m l ih =>
      intro n
      have h1 := ih (zAdd (onCnt bs p) z n m)
      have h2 : zAdd (onCnt bs p) z n m ≤ n + bs.length := by
        unfold zAdd
        have := onCnt_len bs p m.nm
        split <;> omega
      rw [List.foldl_cons, List.length_cons, Nat.succ_mul]
      omega
  have h := this ms 0
  unfold zCnt
  omega
theorem minL_range : ∀ (l : List Int) (B : Int), 0 ≤ B → (∀ x ∈ l, 0 ≤ x ∧ x ≤ B) → 0 ≤ minL l ∧ minL l ≤ B
  | [], B, h, _ => ⟨Int.le_refl _, h⟩
  | x :: l, B, h, hx => by
    have : ∀ (l : List Int) (m : Int), 0 ≤ m ∧ m ≤ B → (∀ x ∈ l, 0 ≤ x ∧ x ≤ B) → 0 ≤ l.foldl minS m ∧ l.foldl minS m ≤ B := by
      intro l
      induction l with
      | nil => intro m hm _; exact hm
      | cons y l ih =>
        intro m hm hl
        rw [List.foldl_cons]
        refine ih _ ?_ fun z hz => hl z (List.mem_cons_of_mem _ hz)
        have := hl y List.mem_cons_self
        unfold minS
        split <;> omega
    exact this l x (hx x List.mem_cons_self) fun y hy => hx y (List.mem_cons_of_mem _ hy)
end Go.Proofs.YthbpnfpalcgfeaaGreat
