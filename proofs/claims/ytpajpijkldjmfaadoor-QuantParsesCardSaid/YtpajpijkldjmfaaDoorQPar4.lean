/-
  QuantParses: what triremeref03.amount gives, by cases.
-/
import Derived.Test.YtpajpijkldjmfaaDoorQPar3
namespace Go.Proofs.YtpajpijkldjmfaaDoor
open Go.RowKit
set_option linter.unusedVariables false

theorem ls_mid (a b : List UInt8) (t : ByteArray) : (lsB a ++ (lsB b ++ t)).extract a.length (a.length + b.length) = lsB b := by
  have hs : (lsB a ++ (lsB b ++ t)).size = a.length + (b.length + t.size) := by rw [ByteArray.size_append, ByteArray.size_append, ls_size, ls_size]
  have ha := ls_size a
  have hb := ls_size b
  refine ByteArray.ext_getElem ?_ fun i hi hj => ?_
  · rw [ByteArray.size_extract, hs]
    omega
  · rw [ByteArray.getElem_extract, ByteArray.getElem_append_right (by omega), ByteArray.getElem_append_left (by omega)]
    simp only [ha, Nat.add_sub_cancel_left]
theorem ls_zero {t : ByteArray} (h : t.size = 0) : t = emp := ByteArray.ext (by rw [show emp.data = #[] from rfl]; exact Array.eq_empty_of_size_eq_zero h)
/-- A text that begins with a point. -/
theorem ls_point {r : ByteArray} (h0 : 0 < r.size) (h : r.get! 0 = 46) : r = lsB [46] ++ r.extract 1 r.size := by
  refine ByteArray.ext_getElem ?_ fun i hi hj => ?_
  · rw [ByteArray.size_append, ls_size, ByteArray.size_extract]
    show r.size = 1 + _
    omega
  · by_cases hi0 : i = 0
    · subst hi0
      rw [ByteArray.getElem_append_left (by rw [ls_size]; exact Nat.one_pos), ← get_bang r 0 h0, h]
      rfl
    · rw [ByteArray.getElem_append_right (by rw [ls_size]; show 1 ≤ i; omega), ByteArray.getElem_extract]
      simp only [ls_size, List.length_cons, List.length_nil]
      congr 1
      omega

/-- The document's amount is the program's, where it is digits with a right point. -/
theorem tail_sc {s q : ByteArray} {A : List UInt8} (hA : allIs A) {p : Nat} (hp : p < 1000) (hn : numP s = (((A.foldl stepD (0, 0)).1, (A.foldl stepD (0, 0)).2, (p : Int)), q, 0)) (scale : Int) (hs : scale = 1 ∨ scale = 1000) :
    scV s scale = if uR q = 0 then (0, 9) else amE (numL A * 1000 + p) (uR q) (lastOf scale) := by
  obtain ⟨hx, hl⟩ := fold_sat A hA
  unfold scV
  rw [hn]
  dsimp only
  rw [if_neg (by decide)]
  unfold uR
  cases hu : uF q with
  | none => rfl
  | some y =>
    obtain ⟨fr, f⟩ := y
    have hb := uF_bd hu
    dsimp only
    cases fr
    · have hr : ratV false f scale = (f * scale, 1) := rfl
      rw [hr]
      dsimp only
      rw [if_neg (show ¬ 1000 * f.toNat = 0 by omega)]
      exact am_factor _ p f _ hp hb.1 hx _ scale hs
    · obtain rfl : f = 1000 := hb.2 rfl
      have hr : ratV true 1000 scale = (1, 1000 / scale) := rfl
      rw [hr, hl]
      dsimp only
      rw [if_neg (show ¬ (1 : Nat) = 0 by decide)]
      exact am_milli _ p _ hp hx scale hs
theorem nopoint_num {A : List UInt8} (hA : allIs A) {r : ByteArray} (hr : endN r) (h1 : 0 < A.length) (h : r.size = 0 ∨ (r.get! 0).toNat ≠ 46) : numP (lsB A ++ r) = (((A.foldl stepD (0, 0)).1, (A.foldl stepD (0, 0)).2, ((0 : Nat) : Int)), r, 0) := by
  unfold numP
  rw [ls_int A hA r hr, if_neg (by show ¬ A.length = 0; omega)]
  show tailP _ ((lsB A ++ r).extract A.length (lsB A ++ r).size) = _
  rw [ls_ext]
  unfold tailP
  rw [if_pos (h.imp ls_zero id)]
  rfl
theorem point_get (a : ByteArray) : 0 < (lsB [46] ++ a).size ∧ (lsB [46] ++ a).get! 0 = 46 ∧ (lsB [46] ++ a).extract 1 (lsB [46] ++ a).size = a :=
  ⟨(ls_get [46] a 0 46 rfl).1, (ls_get [46] a 0 46 rfl).2, ls_ext [46] a⟩
theorem point_end (a : ByteArray) : endN (lsB [46] ++ a) := .inr ⟨(point_get a).1, by rw [(point_get a).2.1]; unfold isD; decide⟩
theorem point_no (a : ByteArray) : ¬ (lsB [46] ++ a = emp ∨ ((lsB [46] ++ a).get! 0).toNat ≠ 46) := by
  rintro (h | h)
  · have h1 := (point_get a).1
    rw [h] at h1
    exact absurd h1 (by decide)
  · rw [(point_get a).2.1] at h
    exact h rfl
/-- Three digits behind the point, noughts for those that are not there. -/
def b3 (B : List UInt8) : List UInt8 := (B ++ [48, 48, 48]).take 3
theorem b3_is {B : List UInt8} (h : allIs B) : allIs (b3 B) := fun c hc => by
  rcases List.mem_append.1 (List.mem_of_mem_take hc) with hc | hc
  · exact h c hc
  · simp only [List.mem_cons, List.not_mem_nil, or_false, or_self] at hc
    rw [hc]
    unfold isD
    decide
theorem b3_len (B : List UInt8) : (b3 B).length = 3 := by
  unfold b3
  rw [List.length_take, List.length_append]
  show min 3 (B.length + 3) = 3
  omega
theorem b3_num {B : List UInt8} (hB : allIs B) (h1 : 1 ≤ B.length) (h3 : B.length ≤ 3) : ((numL (b3 B) : Nat) : Int) = (B.foldl stepD (0, 0)).1 * p10 (3 - B.length) := by
  have hlt := numL_lt hB
  obtain ⟨hx, _⟩ := fold_sat B hB
  have hN : numL (b3 B) = numL B * 10 ^ (3 - B.length) := by
    have e : b3 B = B ++ [48, 48, 48].take (3 - B.length) := by
      unfold b3
      rw [List.take_append, List.take_of_length_le h3]
    rw [e, numL_append]
    rcases (show B.length = 1 ∨ B.length = 2 ∨ B.length = 3 by omega) with h | h | h <;> rw [h] <;> rfl
  rw [hN]
  rcases (show B.length = 1 ∨ B.length = 2 ∨ B.length = 3 by omega) with h | h | h <;> rw [h] at hlt ⊢
  · have hlt' : numL B < 10 := hlt
    rcases hx with ⟨e, _⟩ | ⟨_, e⟩
    · rw [e]
      show ((numL B * 100 : Nat) : Int) = (numL B : Int) * 100
      omega
    · omega
  · have hlt' : numL B < 100 := hlt
    rcases hx with ⟨e, _⟩ | ⟨_, e⟩
    · rw [e]
      show ((numL B * 10 : Nat) : Int) = (numL B : Int) * 10
      omega
    · omega
  · have hlt' : numL B < 1000 := hlt
    rcases hx with ⟨e, _⟩ | ⟨_, e⟩
    · rw [e]
      show ((numL B * 1 : Nat) : Int) = (numL B : Int) * 1
      omega
    · omega
theorem haspoint_num {A B : List UInt8} (hA : allIs A) (hB : allIs B) {q : ByteArray} (hq : endN q) (h1 : 0 < A.length) (h2 : 1 ≤ B.length) (h3 : B.length ≤ 3) :
    numP (lsB A ++ (lsB [46] ++ (lsB B ++ q))) = (((A.foldl stepD (0, 0)).1, (A.foldl stepD (0, 0)).2, ((numL (b3 B) : Nat) : Int)), q, 0) := by
  obtain ⟨p1, p2, p3⟩ := point_get (lsB B ++ q)
  have hn := point_no (lsB B ++ q)
  have he := point_end (lsB B ++ q)
  obtain ⟨r, hr⟩ : ∃ r, lsB [46] ++ (lsB B ++ q) = r := ⟨_, rfl⟩
  rw [hr] at p1 p2 p3 hn he ⊢
  unfold numP
  rw [ls_int A hA r he, if_neg (by show ¬ A.length = 0; omega)]
  show tailP _ ((lsB A ++ r).extract A.length (lsB A ++ r).size) = _
  rw [ls_ext]
  unfold tailP
  rw [if_neg hn, p3, ls_int B hB q hq, if_pos (show 1 ≤ B.length ∧ B.length ≤ 3 from ⟨h2, h3⟩), b3_num hB h2 h3]
  show (_, (lsB B ++ q).extract B.length (lsB B ++ q).size, _) = _
  rw [ls_ext]
theorem badpoint_sc {A B : List UInt8} (hA : allIs A) (hB : allIs B) {q : ByteArray} (hq : endN q) (h : ¬ (1 ≤ B.length ∧ B.length ≤ 3)) (scale : Int) : scV (lsB A ++ (lsB [46] ++ (lsB B ++ q))) scale = (0, 8) := by
  obtain ⟨p1, p2, p3⟩ := point_get (lsB B ++ q)
  have hn := point_no (lsB B ++ q)
  have he := point_end (lsB B ++ q)
  obtain ⟨r, hr⟩ : ∃ r, lsB [46] ++ (lsB B ++ q) = r := ⟨_, rfl⟩
  rw [hr] at p1 p2 p3 hn he ⊢
  have e : (numP (lsB A ++ r)).2.2 = 8 := by
    unfold numP
    rw [ls_int A hA r he]
    by_cases h0 : A.length = 0
    · rw [if_pos h0]
    · rw [if_neg h0]
      show (tailP _ ((lsB A ++ r).extract A.length (lsB A ++ r).size)).2.2 = _
      rw [ls_ext]
      unfold tailP
      rw [if_neg hn, p3, ls_int B hB q hq, if_neg h]
  unfold scV
  rw [e, if_pos (by decide)]
theorem nodigit_sc {r : ByteArray} (hr : endN r) (scale : Int) : scV (lsB [] ++ r) scale = (0, 8) := by
  have e : (numP (lsB [] ++ r)).2.2 = 8 := by
    unfold numP
    rw [ls_int [] (fun _ h => by cases h) r hr]
    dsimp only
    rw [if_pos (show ([] : List UInt8).length = 0 from rfl)]
  unfold scV
  rw [e, if_pos (by decide)]
theorem prodE_num0 (u : Nat) (rs : List UInt8) : numL (prodE u rs 0 []) = numL rs.reverse * u := by
  rw [prodE_num]
  simp [numL]
theorem zB_iff {l : List UInt8} (h : allIs l) : zB l = decide (numL l = 0) := by
  unfold zB
  rw [Bool.eq_iff_iff, List.all_eq_true, decide_eq_true_iff, numL_zero h]
  simp
end Go.Proofs.YtpajpijkldjmfaaDoor
