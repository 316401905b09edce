/-
  Labels: Get, Drop, Set; numbers.
-/
import Derived.Test.YtccplljbljpjpaaDoorMG
import Derived.Test.YtccplljbljpjpaaDoorMD
import Derived.Test.YtccplljbljpjpaaDoorMA
import Derived.OwnWalk
namespace Go.Proofs.YtccplljbljpjpaaDoor
namespace Lb
open Go.RowKit
set_option linter.unusedSimpArgs false
set_option linter.unusedVariables false

theorem kcs_one (x : Lab) : ∀ u ∈ kcs x, u.oneCell' = true := by
  intro u hu
  simp only [kcs, List.mem_cons, List.not_mem_nil, or_false] at hu
  rcases hu with rfl | rfl <;> rfl
theorem Tryd.info67 : (Tryd.prog.info? 67).map (fun i => (i.zero, i.size, i.bytes)) = some (some (.agg #[.string ⟨#[]⟩, .string ⟨#[]⟩]), 2, 32) := by kernel_rfl

/-- What a key says, and whether it is there. -/
def getV (l : List Lab) (key : ByteArray) : ByteArray := match l.find? (fun x => strB x.key key) with | some x => x.val | none => emp
def getB (l : List Lab) (key : ByteArray) : Bool := l.any fun x => strB x.key key
theorem get_at {l : List Lab} {k : Nat} {x : Lab} {key : ByteArray} (hx : l[k]? = some x) (hn : (l.take k).any (fun x => strB x.key key) = false) (h : strB x.key key = true) : getV l key = x.val ∧ getB l key = true := by
  have e : l = l.take k ++ x :: l.drop (k + 1) := by
    obtain ⟨hk, rfl⟩ := List.getElem?_eq_some_iff.1 hx
    rw [List.getElem_cons_drop, List.take_append_drop]
  have hn2 : (l.take k).find? (fun x => strB x.key key) = none := by
    rw [List.find?_eq_none]
    rw [List.any_eq_false] at hn
    exact hn
  constructor
  · unfold getV
    rw [e, List.find?_append, hn2]
    simp [h]
  · unfold getB
    rw [e, List.any_append]
    simp [h]
theorem get_no {l : List Lab} {n : Nat} {key : ByteArray} (hl : l.length = n) (hn : (l.take n).any (fun x => strB x.key key) = false) : getV l key = emp ∧ getB l key = false := by
  rw [List.take_of_length_le (Nat.le_of_eq hl)] at hn
  refine ⟨?_, hn⟩
  have : l.find? (fun x => strB x.key key) = none := by
    rw [List.find?_eq_none]
    rw [List.any_eq_false] at hn
    exact hn
  unfold getV
  rw [this]
theorem any_take1 {α : Type} {P : α → Bool} {l : List α} {k : Nat} {x : α} (h : l[k]? = some x) (hp : P x = false) (ha : (l.take k).any P = false) : (l.take (k + 1)).any P = false := by
  rw [take_at h, List.any_append, ha]; simp [hp]

theorem filt_yes {α : Type} {P : α → Bool} {xs : List α} {k : Nat} {x : α} (h : xs[k]? = some x) (hp : P x = true) : (xs.take (k + 1)).filter P = (xs.take k).filter P ++ [x] := by
  rw [take_at h, List.filter_append]; simp [hp]
theorem filt_no {α : Type} {P : α → Bool} {xs : List α} {k : Nat} {x : α} (h : xs[k]? = some x) (hp : P x = false) : (xs.take (k + 1)).filter P = (xs.take k).filter P := by
  rw [take_at h, List.filter_append]; simp [hp]
/-- Labels without one. -/
def otherB (key : ByteArray) (x : Lab) : Bool := !strB x.key key
def dropL (l : List Lab) (key : ByteArray) : List Lab := l.filter (otherB key)
theorem other_no {key : ByteArray} {x : Lab} (h : otherB key x = false) : (x.key.toList == key.toList) = true := by
  rw [strB_list]; unfold otherB at h; simpa using h
theorem other_yes {key : ByteArray} {x : Lab} (h : otherB key x = true) : (x.key.toList == key.toList) = false := by
  rw [strB_list]; unfold otherB at h; simpa using h

def aheadB (key : ByteArray) (x : Lab) : Bool := lessB x.key key
/-- Labels with one more, as the program sets it. -/
def setP (l : List Lab) (key val : ByteArray) : List Lab := l.takeWhile (aheadB key) ++ ⟨key, val⟩ :: (l.dropWhile (aheadB key)).filter (otherB key)
/-- As the document has it. -/
def setR (l : List Lab) (key val : ByteArray) : List Lab := (dropL l key).takeWhile (aheadB key) ++ ⟨key, val⟩ :: (dropL l key).dropWhile (aheadB key)
def Sorted (l : List Lab) : Prop := l.Pairwise fun x y => lessB x.key y.key = true
theorem set_eq {key : ByteArray} (val : ByteArray) : ∀ {l : List Lab}, Sorted l → setP l key val = setR l key val := by
  intro l
  induction l with
  | nil => intro _; rfl
  | cons x l ih =>
    intro hs
    obtain ⟨h1, h2⟩ := List.pairwise_cons.1 hs
    have ih := ih h2
    by_cases ha : aheadB key x = true
    · have ho : otherB key x = true := by
        unfold otherB strB
        rw [Bool.not_eq_true', decide_eq_false_iff_not]
        intro e
        unfold aheadB at ha
        rw [e, less_irrefl] at ha
        cases ha
      unfold setP setR dropL at ih ⊢
      rw [List.filter_cons, if_pos ho, List.takeWhile_cons, if_pos ha, List.dropWhile_cons, if_pos ha, List.takeWhile_cons, if_pos ha, List.dropWhile_cons, if_pos ha, List.cons_append, List.cons_append, ih]
    · have ha' : aheadB key x = false := by simpa using ha
      have hall : ∀ y ∈ dropL (x :: l) key, aheadB key y = false := by
        intro y hy
        have hy2 := List.mem_filter.1 hy
        rcases List.mem_cons.1 hy2.1 with rfl | hy1
        · exact ha'
        · cases hc : aheadB key y with
          | false => rfl
          | true =>
            have := less_trans (h1 y hy1) hc
            unfold aheadB at ha'
            rw [this] at ha'
            cases ha'
      have e1 : (dropL (x :: l) key).takeWhile (aheadB key) = [] := by
        cases hd : dropL (x :: l) key with
        | nil => rfl
        | cons y m => rw [List.takeWhile_cons, hall y (by rw [hd]; exact List.mem_cons_self)]; rfl
      have e2 : (dropL (x :: l) key).dropWhile (aheadB key) = dropL (x :: l) key := by
        cases hd : dropL (x :: l) key with
        | nil => rfl
        | cons y m => rw [List.dropWhile_cons, hall y (by rw [hd]; exact List.mem_cons_self)]; rfl
      unfold setP setR
      rw [e1, e2, List.takeWhile_cons, List.dropWhile_cons, ha']
      rfl
theorem while_at {α : Type} {P : α → Bool} : ∀ {l : List α} {k : Nat}, (l.take k).all P = true → (k = l.length ∨ ∃ x, l[k]? = some x ∧ P x = false) → l.takeWhile P = l.take k ∧ l.dropWhile P = l.drop k
  | [], k, _, _ => by simp
  | a :: l, 0, _, h => by
    rcases h with h | ⟨x, hx, hp⟩
    · simp at h
    · obtain rfl : a = x := by simpa using hx
      simp [hp]
  | a :: l, k + 1, h1, h2 => by
    rw [List.take_succ_cons, List.all_cons, Bool.and_eq_true] at h1
    have h3 : k = l.length ∨ ∃ x, l[k]? = some x ∧ P x = false := by
      rcases h2 with h | ⟨x, hx, hp⟩
      · exact .inl (by simpa using h)
      · exact .inr ⟨x, by simpa using hx, hp⟩
    obtain ⟨e1, e2⟩ := while_at h1.2 h3
    constructor
    · rw [List.takeWhile_cons, if_pos h1.1, List.take_succ_cons, e1]
    · rw [List.dropWhile_cons, if_pos h1.1, List.drop_succ_cons, e2]
/-- What is left of the labels behind the place, so far. -/
def tailK (key : ByteArray) (l : List Lab) (k j : Nat) : List Lab := ((l.drop k).take (j - k)).filter (otherB key)
theorem tail_yes {key : ByteArray} {l : List Lab} {k j : Nat} {x : Lab} (hkj : k ≤ j) (hx : l[j]? = some x) (h : otherB key x = true) : tailK key l k (j + 1) = tailK key l k j ++ [x] := by
  have e : j + 1 - k = (j - k) + 1 := by omega
  have hx2 : (l.drop k)[j - k]? = some x := by rw [List.getElem?_drop, ← hx]; congr 1; omega
  unfold tailK
  rw [e]
  exact filt_yes hx2 h
theorem tail_no {key : ByteArray} {l : List Lab} {k j : Nat} {x : Lab} (hkj : k ≤ j) (hx : l[j]? = some x) (h : otherB key x = false) : tailK key l k (j + 1) = tailK key l k j := by
  have e : j + 1 - k = (j - k) + 1 := by omega
  have hx2 : (l.drop k)[j - k]? = some x := by rw [List.getElem?_drop, ← hx]; congr 1; omega
  unfold tailK
  rw [e]
  exact filt_no hx2 h
theorem tail_len (key : ByteArray) (l : List Lab) (k j : Nat) : (tailK key l k j).length ≤ j := by
  unfold tailK
  refine Nat.le_trans (List.length_filter_le _ _) ?_
  rw [List.length_take]
  omega
theorem tail_end {key : ByteArray} {l : List Lab} {k n : Nat} (h : l.length = n) : tailK key l k n = (l.drop k).filter (otherB key) := by
  unfold tailK
  rw [List.take_of_length_le (by rw [List.length_drop]; omega)]
/-- A slice from a place on. -/
theorem rows_sliced {α : Type} {enc : α → List Value} {K : Nat} {W : World} {a : Option Addr} {l : List α} {k c : Nat} (h : RowsAt enc K W a l) (hc : l.length ≤ c) : RowsAt enc K W (if c = k then a else a.map (·.add (k * K))) (l.drop k) := by
  intro h0
  rw [List.length_drop] at h0
  obtain ⟨b, off, rfl, hb, hr⟩ := h (by omega)
  rw [if_neg (by omega)]
  refine ⟨b, off + k * K, by rw [Option.map_some, Go.WideShapes.add_plain], hb, fun i x hx r hr' => ?_⟩
  rw [List.getElem?_drop] at hx
  have := hr (k + i) x hx r hr'
  have e : off + k * K + i * K + r = off + (k + i) * K + r := by rw [Nat.add_mul]; omega
  rw [e]
  exact this
theorem tail_zero (key : ByteArray) (l : List Lab) (k : Nat) : tailK key l k k = [] := by
  unfold tailK
  simp

theorem OwnL.cap {α : Type} {enc : α → List Value} {K B : Nat} {t : TypeId} {l : List α} {v : Value} {w : World} {a : Option Addr} {n c : Nat} (h : OwnL enc K B t l v w) (e : v = .slice a n c) : n ≤ c := by
  subst e
  obtain ⟨hl, h | ⟨g, cap, cur, hv, r⟩⟩ := h
  · obtain ⟨h, _⟩ := h
    simp only [Value.slice.injEq] at h
    omega
  · simp only [Value.slice.injEq] at hv
    obtain ⟨_, h1, h2⟩ := hv
    obtain ⟨_, hnc, _⟩ := r
    omega

def labB (x y : Lab) : Bool := decide (x = y)
theorem guard_lab (op : BinOp) (x y : Operand) (xs ys : Array Value) (w : World) : (eqGuard op 67 x y (.agg xs) (.agg ys)).run Tryd.prog w = .ok () w := run_eqGuard_agg w op _ x y xs ys (by kernel_rfl)
theorem eql_lab0 (x y : Lab) (w : World) : (Op.equalIn 10000 67 (.agg #[.string x.key, .string x.val]) (.agg #[.string y.key, .string y.val])).run Tryd.prog w = .ok (labB x y) w := by
  have hus := Tryd.underlying9
  have has := Tryd.isAgg9
  have hzs := Tryd.sizeOf9
  have hS : Tryd.prog.underlying 67 = some (.struct (Tryd.prog.fieldsOf 67)) := by kernel_rfl
  have hp : Tryd.prog.stoodInHeld 67 = false := by kernel_rfl
  rw [show (10000 : Nat) = 9999 + 1 from rfl, run_equalIn_agg w 9999 67 _ _ hS hp]
  simp only [Program.fieldsOf, Tryd.underlying67]
  go_simp
  obtain ⟨x1, x2⟩ := x
  obtain ⟨y1, y2⟩ := y
  unfold labB
  by_cases h1 : x1 = y1 <;> by_cases h2 : x2 = y2 <;> simp [h1, h2, str_inj]
theorem eql_lab (x y : Lab) (w : World) : (binOp .eql 67 (.agg #[.string x.key, .string x.val]) (.agg #[.string y.key, .string y.val])).run Tryd.prog w = .ok (.bool (labB x y)) w := by
  rw [run_eql_struct, eql_lab0]; rfl
theorem neq_lab (x y : Lab) (w : World) : (binOp .neq 67 (.agg #[.string x.key, .string x.val]) (.agg #[.string y.key, .string y.val])).run Tryd.prog w = .ok (.bool (!labB x y)) w := by
  rw [run_neq_struct, eql_lab0]; rfl

def sameL (xs ys : List Lab) : Bool := decide (xs = ys)
theorem sameL_at {xs ys : List Lab} {k : Nat} {x y : Lab} (hx : xs[k]? = some x) (hy : ys[k]? = some y) (h : labB x y = false) : sameL xs ys = false := by
  refine decide_eq_false fun e => ?_
  subst e
  rw [hx] at hy
  obtain rfl : x = y := by simpa using hy
  unfold labB at h
  simp at h
theorem takeL_eq {xs ys : List Lab} {k : Nat} {x y : Lab} (hx : xs[k]? = some x) (hy : ys[k]? = some y) (h : labB x y = true) (ht : xs.take k = ys.take k) : xs.take (k + 1) = ys.take (k + 1) := by
  rw [take_at hx, take_at hy, ht, of_decide_eq_true h]

/-- The first place where it holds, or -1. -/
def idxI {α : Type} (p : α → Bool) (l : List α) : Int := if l.any p then (l.findIdx p : Int) else -1
theorem idx_at {α : Type} {p : α → Bool} : ∀ {l : List α} {k : Nat} {x : α}, l[k]? = some x → (l.take k).any p = false → p x = true → idxI p l = k := by
  intro l k x hx hn h
  have e : l = l.take k ++ x :: l.drop (k + 1) := by
    obtain ⟨hk, rfl⟩ := List.getElem?_eq_some_iff.1 hx
    rw [List.getElem_cons_drop, List.take_append_drop]
  have hk := lt_at hx
  have h1 : l.any p = true := by rw [e, List.any_append]; simp [h]
  have h2 : l.findIdx p = k := by
    rw [e, List.findIdx_append]
    have h3 : ¬ (l.take k).findIdx p < (l.take k).length := by
      intro hlt
      have := List.findIdx_getElem (w := hlt)
      rw [List.any_eq_false] at hn
      exact hn _ (List.getElem_mem hlt) this
    rw [if_neg h3, List.findIdx_cons, h]
    simp
    omega
  unfold idxI
  rw [h1, h2]
  rfl
theorem idx_no {α : Type} {p : α → Bool} {l : List α} {n : Nat} (hl : l.length = n) (hn : (l.take n).any p = false) : idxI p l = -1 := by
  rw [List.take_of_length_le (Nat.le_of_eq hl)] at hn
  unfold idxI
  rw [hn]
  rfl
theorem idx_geq {α : Type} (p : α → Bool) (l : List α) : decide (0 ≤ idxI p l) = l.any p := by
  unfold idxI
  cases h : l.any p
  · rfl
  · simp

/-- One more digit: the number, but no more than much; and its last three. -/
def addD (d : Int × Int) (k : Int) : Int × Int := (if 112589990684262400 < d.1 then 1127025806749466624 else d.1 * 10 + k, (d.2 * 10 + k) % 1000)
def digB (s : ByteArray) (i : Nat) : Bool := decide (i < s.size ∧ 48 ≤ (s.get! i).toNat ∧ (s.get! i).toNat ≤ 57)
/-- The digits from a place on: what they come to, and where they end. -/
def intF (s : ByteArray) : Nat → Nat → Int × Int → (Int × Int) × Nat
  | 0, i, d => (d, i)
  | f + 1, i, d => if digB s i then intF s f (i + 1) (addD d (((s.get! i).toNat : Int) - 48)) else (d, i)
def intV (s : ByteArray) : (Int × Int) × Nat := intF s s.size 0 (0, 0)
theorem intF_end {s : ByteArray} (f i : Nat) (d : Int × Int) (h : digB s i = false) : intF s f i d = (d, i) := by
  cases f with
  | zero => rfl
  | succ f => rw [intF, h]; rfl
theorem addD_bd {d : Int × Int} {k : Int} (h1 : 0 ≤ d.1 ∧ d.1 ≤ 1127025806749466624) (h2 : 0 ≤ d.2 ∧ d.2 < 1000) (hk : 0 ≤ k ∧ k ≤ 9) : (0 ≤ (addD d k).1 ∧ (addD d k).1 ≤ 1127025806749466624) ∧ (0 ≤ (addD d k).2 ∧ (addD d k).2 < 1000) := by
  unfold addD
  dsimp only
  split <;> omega
theorem intF_le (s : ByteArray) : ∀ f i d, i ≤ s.size → (intF s f i d).2 ≤ s.size := by
  intro f
  induction f with
  | zero => intro i d h; exact h
  | succ f ih =>
    intro i d h
    rw [intF]
    split
    next hd => exact ih _ _ (by unfold digB at hd; simp at hd; omega)
    next => exact h
theorem intF_bd (s : ByteArray) : ∀ f i d, (0 ≤ d.1 ∧ d.1 ≤ 1127025806749466624) → (0 ≤ d.2 ∧ d.2 < 1000) → (0 ≤ (intF s f i d).1.1 ∧ (intF s f i d).1.1 ≤ 1127025806749466624) ∧ (0 ≤ (intF s f i d).1.2 ∧ (intF s f i d).1.2 < 1000) := by
  intro f
  induction f with
  | zero => intro i d h1 h2; exact ⟨h1, h2⟩
  | succ f ih =>
    intro i d h1 h2
    rw [intF]
    split
    next hd =>
      have hk : 0 ≤ (((s.get! i).toNat : Int) - 48) ∧ (((s.get! i).toNat : Int) - 48) ≤ 9 := by unfold digB at hd; simp at hd; omega
      obtain ⟨a, b⟩ := addD_bd h1 h2 hk
      exact ih _ _ a b
    next => exact ⟨h1, h2⟩

/-- A decimal at the head of a block of its own. -/
structure DecAt (b : Nat) (x y z : Int) (wr : World) : Prop where
  sz : b < wr.heap.size
  c0 : wr.cell? ⟨b, 0, none⟩ = some (.int .i64 x)
  c1 : wr.cell? ⟨b, 1, none⟩ = some (.int .i64 y)
  c2 : wr.cell? ⟨b, 2, none⟩ = some (.int .i64 z)
  f : ∀ j, wr.frozen? ⟨b, j, none⟩ = false

set_option maxRecDepth 100000 in
set_option maxHeartbeats 8000000 in
theorem integer_any (s : ByteArray) (hs : s.size ≤ 1000000000) (w : World) :
    Calls Tryd.prog 73 #[.string s] w fun e w' => e = .returned (.tuple #[.agg #[.int .i64 (intV s).1.1, .int .i64 (intV s).1.2, .int .i64 0], .string (s.extract (intV s).2 s.size)]) ∧ Below w.heap.size w w' := by
  obtain ⟨n, hn⟩ : ∃ n, s.size = n := ⟨_, rfl⟩
  go_enter Tryd.func73, Tryd.ntmps73
  go_wp2
  go_loopw [9] (fun i wr => ∃ (k f : Nat) (D : Int × Int), k ≤ s.size ∧ s.size ≤ k + f ∧ i = .int .i64 k ∧ intV s = intF s f k D ∧ (0 ≤ D.1 ∧ D.1 ≤ 1127025806749466624) ∧ (0 ≤ D.2 ∧ D.2 < 1000) ∧ DecAt w.heap.size 0 0 0 wr ∧ DecAt (w.heap.size + 1) D.1 D.2 0 wr ∧ Below w.heap.size w wr) (fun i _ => s.size - (intOf i).toNat)
  case atStart => exact ⟨0, s.size, (0, 0), Nat.zero_le _, by omega, rfl, rfl, by decide, by decide, (by constructor <;> simp [go_sem]), (by constructor <;> simp [go_sem]), by (repeat' (first | with_reducible exact Below.refl _ _ | with_reducible assumption | with_reducible refine Below.drew ?_ | with_reducible refine below_drewN' ?_ _ | with_reducible refine Below.alloc ?_ ?_ _ | with_reducible refine Below.setCell ?_ ?_ _ | with_reducible refine below_step (by assumption) ?_ ?_ | omega | (simp; done) | (simp; omega)))⟩
  case round =>
    obtain ⟨k, f, D, hk, hf, rfl, hE, hD1, hD2, ⟨z0, r0, r1, r2, rf⟩, ⟨z1, d0, d1, d2, df⟩, hB⟩ := hrel
    have HE := Lib.hid hE
    have HB := Lib.hid hB
    have hbz := hB.size
    clear hE
    obtain ⟨D1, D2⟩ := D
    dsimp only at hD1 hD2 d0 d1
    by_cases hlt : k < s.size
    · have hx := str_ix s k hlt
      obtain ⟨p, hp⟩ : ∃ p, (s.get! k).toNat = p := ⟨_, rfl⟩
      have hdg : digB s k = decide (48 ≤ p ∧ p ≤ 57) := by unfold digB; rw [hp]; simp [hlt]
      have hp256 : p < 256 := by rw [← hp]; exact UInt8.toNat_lt _
      rw [hp] at hx
      obtain ⟨f, rfl⟩ : ∃ g, f = g + 1 := ⟨f - 1, by omega⟩
      have hE2 := HE.out
      rw [intF, hp, hdg] at hE2
      clear hp hdg
      by_cases h48 : 48 ≤ p
      · by_cases h57 : p ≤ 57
        · rw [decide_eq_true (⟨h48, h57⟩ : 48 ≤ p ∧ p ≤ 57), if_pos rfl] at hE2
          have H2 := Lib.hid hE2
          have w1 : IntKind.u8.wrap ((p : Int) - 48) = (p : Int) - 48 := by simp [IntKind.wrap, IntKind.bits, IntKind.signed]; omega
          have w2 : IntKind.i64.wrap ((p : Int) - 48) = (p : Int) - 48 := wrap_in (by omega) (by omega)
          have w3 : IntKind.i64.wrap (D2 * 10) = D2 * 10 := wrap_in (by omega) (by omega)
          have w4 : IntKind.i64.wrap (D2 * 10 + ((p : Int) - 48)) = D2 * 10 + ((p : Int) - 48) := wrap_in (by omega) (by omega)
          have w5 : Int.tmod (D2 * 10 + ((p : Int) - 48)) 1000 = (D2 * 10 + ((p : Int) - 48)) % 1000 := Int.tmod_eq_emod_of_nonneg (by omega)
          have w6 : IntKind.i64.wrap ((D2 * 10 + ((p : Int) - 48)) % 1000) = (D2 * 10 + ((p : Int) - 48)) % 1000 := wrap_in (by omega) (by omega)
          clear hE2
          by_cases hbig : 112589990684262400 < D1
          · have Ha := Lib.hid (show addD (D1, D2) ((p : Int) - 48) = (1127025806749466624, (D2 * 10 + ((p : Int) - 48)) % 1000) by unfold addD; dsimp only; rw [if_pos hbig])
            go_wp2
            first | go_end0 | refine bodyPost_ret (results_none rfl _ _ _) rfl ?_
            go_wp2
            go_roundw
            case rel => exact ⟨k + 1, f, addD (D1, D2) ((p : Int) - 48), by omega, by omega, by go_num, H2.out, by rw [Ha.out]; dsimp only; omega, by rw [Ha.out]; dsimp only; omega, (by constructor <;> simp [go_sem, *]), (by rw [Ha.out]; constructor <;> simp [go_sem, *]), by (repeat' (first | with_reducible exact Below.refl _ _ | with_reducible assumption | with_reducible refine Below.drew ?_ | with_reducible refine below_drewN' ?_ _ | with_reducible refine Below.alloc ?_ ?_ _ | with_reducible refine Below.setCell ?_ ?_ _ | with_reducible refine below_step (by assumption) ?_ ?_ | omega | (simp; done) | (simp; omega)))⟩
            case measure => simp [intOf]; omega
          · have Ha := Lib.hid (show addD (D1, D2) ((p : Int) - 48) = (D1 * 10 + ((p : Int) - 48), (D2 * 10 + ((p : Int) - 48)) % 1000) by unfold addD; dsimp only; rw [if_neg hbig])
            have w7 : IntKind.i64.wrap (D1 * 10) = D1 * 10 := wrap_in (by omega) (by omega)
            have w8 : IntKind.i64.wrap (D1 * 10 + ((p : Int) - 48)) = D1 * 10 + ((p : Int) - 48) := wrap_in (by omega) (by omega)
            go_wp2
            first | go_end0 | refine bodyPost_ret (results_none rfl _ _ _) rfl ?_
            go_wp2
            go_roundw
            case rel => exact ⟨k + 1, f, addD (D1, D2) ((p : Int) - 48), by omega, by omega, by go_num, H2.out, by rw [Ha.out]; dsimp only; omega, by rw [Ha.out]; dsimp only; omega, (by constructor <;> simp [go_sem, *]), (by rw [Ha.out]; constructor <;> simp [go_sem, *]), by (repeat' (first | with_reducible exact Below.refl _ _ | with_reducible assumption | with_reducible refine Below.drew ?_ | with_reducible refine below_drewN' ?_ _ | with_reducible refine Below.alloc ?_ ?_ _ | with_reducible refine Below.setCell ?_ ?_ _ | with_reducible refine below_step (by assumption) ?_ ?_ | omega | (simp; done) | (simp; omega)))⟩
            case measure => simp [intOf]; omega
        · rw [decide_eq_false (fun h => h57 h.2), if_neg (by decide)] at hE2
          have H2 := Lib.hid hE2
          clear hE2
          go_wp2
          go_region
          all_goals
            (try go_wp2)
            refine bodyPost_ret (v := .tuple #[.agg #[.int .i64 D1, .int .i64 D2, .int .i64 0], .string (s.extract k n)]) (by simp [results, Tryd.results73, go_sem, *]) rfl ⟨by rw [H2.out, hn], by (repeat' (first | with_reducible exact Below.refl _ _ | with_reducible assumption | with_reducible refine Below.drew ?_ | with_reducible refine below_drewN' ?_ _ | with_reducible refine Below.alloc ?_ ?_ _ | with_reducible refine Below.setCell ?_ ?_ _ | with_reducible refine below_step (by assumption) ?_ ?_ | omega | (simp; done) | (simp; omega)))⟩
      · rw [decide_eq_false (fun h => h48 h.1), if_neg (by decide)] at hE2
        have H2 := Lib.hid hE2
        clear hE2
        go_wp2
        go_region
        all_goals
          (try go_wp2)
          refine bodyPost_ret (v := .tuple #[.agg #[.int .i64 D1, .int .i64 D2, .int .i64 0], .string (s.extract k n)]) (by simp [results, Tryd.results73, go_sem, *]) rfl ⟨by rw [H2.out, hn], by (repeat' (first | with_reducible exact Below.refl _ _ | with_reducible assumption | with_reducible refine Below.drew ?_ | with_reducible refine below_drewN' ?_ _ | with_reducible refine Below.alloc ?_ ?_ _ | with_reducible refine Below.setCell ?_ ?_ _ | with_reducible refine below_step (by assumption) ?_ ?_ | omega | (simp; done) | (simp; omega)))⟩
    · have H2 := Lib.hid (HE.out.trans (intF_end f k (D1, D2) (by unfold digB; simp [hlt])))
      have hkn : k = s.size := by omega
      have He := Lib.hid (show s.extract k s.size = ⟨#[]⟩ by rw [hkn]; exact ByteArray.ext (by simp))
      clear hkn
      go_wp2
      refine bodyPost_ret (v := .tuple #[.agg #[.int .i64 D1, .int .i64 D2, .int .i64 0], .string ⟨#[]⟩]) (by simp [results, Tryd.results73, go_sem, *]) rfl ⟨by rw [H2.out, He.out], by (repeat' (first | with_reducible exact Below.refl _ _ | with_reducible assumption | with_reducible refine Below.drew ?_ | with_reducible refine below_drewN' ?_ _ | with_reducible refine Below.alloc ?_ ?_ _ | with_reducible refine Below.setCell ?_ ?_ _ | with_reducible refine below_step (by assumption) ?_ ?_ | omega | (simp; done) | (simp; omega)))⟩

/-- No more than can be. -/
def overB (n : Int) : Int × Int := if 1125899906842624 < n then (0, 10) else (n, 0)
set_option maxRecDepth 100000 in
theorem bounded_any (n : Int) (w : World) :
    Calls Tryd.prog 74 #[.int .i64 n] w fun e w' => e = .returned (.tuple #[.int .i64 (overB n).1, .int .i64 (overB n).2]) ∧ Below w.heap.size w w' := by
  unfold overB
  by_cases h : 1125899906842624 < n
  · rw [if_pos h]
    go_enter Tryd.func74, Tryd.ntmps74
    go_wp2
    go_ret2
    exact ⟨rfl, by (repeat' (first | with_reducible exact Below.refl _ _ | with_reducible assumption | with_reducible refine Below.drew ?_ | with_reducible refine below_drewN' ?_ _ | with_reducible refine Below.alloc ?_ ?_ _ | with_reducible refine Below.setCell ?_ ?_ _ | with_reducible refine below_step (by assumption) ?_ ?_ | omega | (simp; done) | (simp; omega)))⟩
  · rw [if_neg h]
    go_enter Tryd.func74, Tryd.ntmps74
    go_wp2
    go_ret2
    exact ⟨rfl, by (repeat' (first | with_reducible exact Below.refl _ _ | with_reducible assumption | with_reducible refine Below.drew ?_ | with_reducible refine below_drewN' ?_ _ | with_reducible refine Below.alloc ?_ ?_ _ | with_reducible refine Below.setCell ?_ ?_ _ | with_reducible refine below_step (by assumption) ?_ ?_ | omega | (simp; done) | (simp; omega)))⟩

/-- A number in digits, or what is wrong (8: no number, 10: too much). -/
def numV (s : ByteArray) : Int × Int := if s = emp ∨ (intV s).2 < s.size then (0, 8) else overB (intV s).1.1
theorem extract_emp {s : ByteArray} {k : Nat} (hk : k ≤ s.size) : s.extract k s.size = emp ↔ k = s.size := by
  constructor
  · intro h
    have := congrArg ByteArray.size h
    rw [ByteArray.size_extract] at this
    have e : emp.size = 0 := rfl
    omega
  · rintro rfl
    exact ByteArray.ext (by simp [emp])

set_option maxRecDepth 100000 in
set_option maxHeartbeats 4000000 in
theorem number_any (s : ByteArray) (hs : s.size ≤ 1000000000) (w : World) :
    Calls Tryd.prog 66 #[.string s] w fun e w' => e = .returned (.tuple #[.int .i64 (numV s).1, .int .i64 (numV s).2]) ∧ Below w.heap.size w w' := by
  have A := fun V => integer_any s hs V
  have hle : (intV s).2 ≤ s.size := intF_le s _ _ _ (Nat.zero_le _)
  unfold numV
  obtain ⟨⟨⟨D1, D2⟩, k⟩, hd⟩ : ∃ d, intV s = d := ⟨_, rfl⟩
  rw [hd] at hle ⊢
  simp only [hd] at A
  dsimp only at hle ⊢
  have HA := Lib.hid A
  have hx := extract_emp hle
  obtain ⟨r, hr⟩ : ∃ r, s.extract k s.size = r := ⟨_, rfl⟩
  rw [hr] at hx A
  clear hd
  by_cases h1 : s = emp
  · obtain ⟨e1, e2, e3, e4⟩ := emp_lits h1
    rw [if_pos (.inl h1)]
    clear h1 A hx
    go_enter Tryd.func66, Tryd.ntmps66
    go_wp2_with (go_at_call 73; (with_reducible refine (HA.out _).mono ?_); rintro e w1 ⟨rfl, hb1⟩; obtain ⟨hc1, hf1⟩ := bcell hb1; have hz1 := hb1.size)
    go_ret2
    exact ⟨rfl, by (repeat' (first | with_reducible exact Below.refl _ _ | with_reducible assumption | with_reducible refine Below.drew ?_ | with_reducible refine below_drewN' ?_ _ | with_reducible refine Below.alloc ?_ ?_ _ | with_reducible refine Below.setCell ?_ ?_ _ | with_reducible refine below_step (by assumption) ?_ ?_ | omega | (simp; done) | (simp; omega)))⟩
  · obtain ⟨e1, e2, e3, e4⟩ := emp_litn h1
    by_cases h2 : k < s.size
    · obtain ⟨f1, f2, f3, f4⟩ := emp_litn (s := r) (fun h => by have := hx.1 h; omega)
      rw [if_pos (.inr h2)]
      rw [hr] at HA
      clear h1 A hx h2
      go_enter Tryd.func66, Tryd.ntmps66
      go_wp2_with (go_at_call 73; (with_reducible refine (HA.out _).mono ?_); rintro e w1 ⟨rfl, hb1⟩; obtain ⟨hc1, hf1⟩ := bcell hb1; have hz1 := hb1.size)
      go_ret2
      exact ⟨rfl, by (repeat' (first | with_reducible exact Below.refl _ _ | with_reducible assumption | with_reducible refine Below.drew ?_ | with_reducible refine below_drewN' ?_ _ | with_reducible refine Below.alloc ?_ ?_ _ | with_reducible refine Below.setCell ?_ ?_ _ | with_reducible refine below_step (by assumption) ?_ ?_ | omega | (simp; done) | (simp; omega)))⟩
    · obtain ⟨f1, f2, f3, f4⟩ := emp_lits (s := r) (hx.2 (by omega))
      rw [if_neg (fun h => h.elim h1 h2)]
      rw [hr] at HA
      clear h1 A hx h2
      go_enter Tryd.func66, Tryd.ntmps66
      go_wp2_with (first | (go_at_call 73; (with_reducible refine (HA.out _).mono ?_); rintro e w1 ⟨rfl, hb1⟩; obtain ⟨hc1, hf1⟩ := bcell hb1; have hz1 := hb1.size) | (go_at_call 74; (with_reducible refine (bounded_any D1 _).mono ?_); rintro e w2 ⟨rfl, hb2⟩; have hz2 := hb2.size))
      go_ret2
      exact ⟨rfl, by (repeat' (first | with_reducible exact Below.refl _ _ | with_reducible assumption | with_reducible refine Below.drew ?_ | with_reducible refine below_drewN' ?_ _ | with_reducible refine Below.alloc ?_ ?_ _ | with_reducible refine Below.setCell ?_ ?_ _ | with_reducible refine below_step (by assumption) ?_ ?_ | omega | (simp; done) | (simp; omega)))⟩
/-- A number, but one more than can be, if it is more. -/
def capM (x : Int) : Int := if 1125899906842625 < x then 1125899906842625 else x
def allD (s : ByteArray) : Prop := ∀ i, i < s.size → digB s i = true
theorem capM_step {D : Int × Int} {d : Int} (h1 : 0 ≤ D.1 ∧ D.1 ≤ 1127025806749466624) (hd : 0 ≤ d ∧ d ≤ 9) : capM (addD D d).1 = if 1125899906842625 < 10 * capM D.1 + d then 1125899906842625 else 10 * capM D.1 + d := by
  unfold capM addD
  dsimp only
  repeat' split
  all_goals omega

/-- What has digits alone. -/
theorem intF_all (s : ByteArray) : ∀ f i d, s.size ≤ i + f → (intF s f i d).2 = s.size → ∀ j, i ≤ j → j < s.size → digB s j = true := by
  intro f
  induction f with
  | zero => intro i d h1 h2 j h3 h4; omega
  | succ f ih =>
    intro i d h1 h2 j h3 h4
    rw [intF] at h2
    cases hd : digB s i
    · rw [hd, if_neg (by decide)] at h2
      have h2' : i = s.size := h2
      omega
    · rw [hd, if_pos rfl] at h2
      by_cases e : i = j
      · rw [← e]; exact hd
      · exact ih (i + 1) _ (by omega) h2 j (by omega) h4

end Lb
end Go.Proofs.YtccplljbljpjpaaDoor
