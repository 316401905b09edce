/-
  The comparison of two names: by their times, then by themselves.
-/
import Derived.Test.YteccmjbgedmfhaaTm1
import Derived.StillTailTactics
namespace Go.Proofs.Yteccmjbgedmfhaa
open Go.RowKit
set_option linter.unusedVariables false
set_option linter.unusedSimpArgs false

def cmpI (x y : Int) : Int := if x < y then -1 else if y < x then 1 else 0
theorem cmp_any (x y : Int) (w : World) : Calls Try.prog 34 #[.int .i64 x, .int .i64 y] w fun e w' => e = .returned (.int .i64 (cmpI x y)) ∧ w' = w := by
  by_cases h : x < y
  · have e : cmpI x y = -1 := if_pos h
    rw [e]
    go_enter Try.func34, Try.ntmps34
    go_wp2
    go_ret
    exact ⟨rfl, rfl⟩
  · by_cases h' : y < x
    · have e : cmpI x y = 1 := by unfold cmpI; rw [if_neg h, if_pos h']
      rw [e]
      go_enter Try.func34, Try.ntmps34
      go_wp2
      go_ret
      exact ⟨rfl, rfl⟩
    · have e : cmpI x y = 0 := by unfold cmpI; rw [if_neg h, if_neg h']
      rw [e]
      go_enter Try.func34, Try.ntmps34
      go_wp2
      go_ret
      exact ⟨rfl, rfl⟩
def bl (a b : ByteArray) : Bool := Op.bytesLess a.toList b.toList
theorem bl_irrefl : ∀ x : List UInt8, Op.bytesLess x x = false
  | [] => rfl
  | a :: x => by
    rw [Op.bytesLess, bl_irrefl x]
    simp [UInt8.lt_irrefl]
theorem bl_trans : ∀ x y z : List UInt8, Op.bytesLess x y = true → Op.bytesLess y z = true → Op.bytesLess x z = true
  | _, [], _, h, _ => by cases h' : (‹List UInt8›) <;> simp [Op.bytesLess] at h
  | _, _ :: _, [], _, h => by simp [Op.bytesLess] at h
  | [], _ :: _, _ :: _, _, _ => rfl
  | a :: x, b :: y, c :: z, h1, h2 => by
    simp only [Op.bytesLess, Bool.or_eq_true, Bool.and_eq_true, decide_eq_true_eq, beq_iff_eq] at h1 h2 ⊢
    rcases h1 with h1 | ⟨rfl, h1⟩
    · rcases h2 with h2 | ⟨rfl, h2⟩
      · exact .inl (UInt8.lt_trans h1 h2)
      · exact .inl h1
    · rcases h2 with h2 | ⟨rfl, h2⟩
      · exact .inl h2
      · exact .inr ⟨rfl, bl_trans x y z h1 h2⟩
theorem bl_tri : ∀ x y : List UInt8, Op.bytesLess x y = false → Op.bytesLess y x = false → x = y
  | [], [], _, _ => rfl
  | [], _ :: _, h, _ => by simp [Op.bytesLess] at h
  | _ :: _, [], _, h => by simp [Op.bytesLess] at h
  | a :: x, b :: y, h1, h2 => by
    simp only [Op.bytesLess, Bool.or_eq_false_iff, Bool.and_eq_false_iff, decide_eq_false_iff_not, beq_eq_false_iff_ne] at h1 h2
    have e : a = b := by
      have := h1.1
      have := h2.1
      exact UInt8.le_antisymm (UInt8.not_lt.1 h2.1) (UInt8.not_lt.1 h1.1)
    subst e
    have h3 := h1.2.resolve_left (fun h => h rfl)
    have h4 := h2.2.resolve_left (fun h => h rfl)
    rw [bl_tri x y h3 h4]
theorem bl_ext {a b : ByteArray} (h1 : bl a b = false) (h2 : bl b a = false) : a = b := by
  have := bl_tri _ _ h1 h2
  rw [ByteArray.toList_eq, ByteArray.toList_eq] at this
  exact ByteArray.ext (Array.toList_inj.1 this)
theorem bl_self (a : ByteArray) : bl a a = false := bl_irrefl _
theorem bl_tr {a b c : ByteArray} (h1 : bl a b = true) (h2 : bl b c = true) : bl a c = true := bl_trans _ _ _ h1 h2
def cmpS (a b : ByteArray) : Int := if bl a b = true then -1 else if bl b a = true then 1 else 0
theorem cmps_any (x y : ByteArray) (w : World) : Calls Try.prog 35 #[.string x, .string y] w fun e w' => e = .returned (.int .i64 (cmpS x y)) ∧ w' = w := by
  have k1 : (x.toList == x.toList) = true := by simp
  have k2 : (y.toList == y.toList) = true := by simp
  cases h : bl x y with
  | true =>
    have e : cmpS x y = -1 := if_pos h
    have h1 : Op.bytesLess x.toList y.toList = true := h
    rw [e]
    clear e h
    go_enter Try.func35, Try.ntmps35
    go_wp2
    go_ret
    exact ⟨rfl, rfl⟩
  | false =>
    have h1 : Op.bytesLess x.toList y.toList = false := h
    cases h' : bl y x with
    | true =>
      have e : cmpS x y = 1 := by unfold cmpS; rw [h, h']; rfl
      have h3 : (x.toList == y.toList) = false := by
        rw [beq_eq_false_iff_ne]
        intro e2
        have h4 : Op.bytesLess y.toList x.toList = true := h'
        rw [e2, bl_irrefl] at h4
        cases h4
      rw [e]
      clear e h h'
      go_enter Try.func35, Try.ntmps35
      go_wp2
      go_ret
      exact ⟨rfl, rfl⟩
    | false =>
      have e : cmpS x y = 0 := by unfold cmpS; rw [h, h']; rfl
      have h3 : (x.toList == y.toList) = true := by rw [bl_ext h h']; simp
      rw [e]
      clear e h h'
      go_enter Try.func35, Try.ntmps35
      go_wp2
      go_ret
      exact ⟨rfl, rfl⟩
def orI (x y : Int) : Int := if x = 0 then y else x
theorem or_any (b : Nat) (x y : Int) (w : World) (c0 : w.cell? ⟨b, 0, none⟩ = some (.int .i64 x)) (c1 : w.cell? ⟨b, 1, none⟩ = some (.int .i64 y)) :
    Calls Try.prog 33 #[.slice (some ⟨b, 0, none⟩) 2 2] w fun e w' => e = .returned (.int .i64 (orI x y)) ∧ w' = w := by
  by_cases h : x = 0
  · have hx : (x != 0) = false := by simp [h]
    have e : orI x y = y := if_pos h
    rw [e]
    clear e h
    by_cases h2 : y = 0
    · subst h2
      go_enter Try.func33, Try.ntmps33
      go_wp2
      refine wp_loop_rounds 3 ?_
      iterate 3 ((try rw [rounds_succ]); (try go_wp2))
      go_ret
      exact ⟨rfl, rfl⟩
    · have hy : (y != 0) = true := by simp [h2]
      clear h2
      go_enter Try.func33, Try.ntmps33
      go_wp2
      refine wp_loop_rounds 3 ?_
      iterate 3 ((try rw [rounds_succ]); (try go_wp2))
      go_ret
      exact ⟨rfl, rfl⟩
  · have hx : (x != 0) = true := by simp [h]
    have e : orI x y = x := if_neg h
    rw [e]
    clear e h
    go_enter Try.func33, Try.ntmps33
    go_wp2
    refine wp_loop_rounds 3 ?_
    iterate 3 ((try rw [rounds_succ]); (try go_wp2))
    go_ret
    exact ⟨rfl, rfl⟩

abbrev ordT (T : ByteArray → Option Int) (s : ByteArray) : Int := (T s).getD 0
def tcf (T : ByteArray → Option Int) (a b : ByteArray) : Int := orI (cmpI (ordT T a) (ordT T b)) (cmpS a b)
theorem int_get (T : ByteArray → Option Int) (s : ByteArray) : ((T s).map iv).getD (.int .i64 0) = .int .i64 (ordT T s) := by
  unfold ordT
  cases T s <;> rfl
set_option maxRecDepth 100000 in
set_option maxHeartbeats 4000000 in
theorem tclos_any (bx b m : Nat) (T : ByteArray → Option Int) (n : Nat) (s u : ByteArray) (hs : s.size ≤ maxLen) (hu : u.size ≤ maxLen) (W : World) (h : TB W b m T n) (hx : W.cell? ⟨bx, 0, none⟩ = some (.pointer (some ⟨b, 0, none⟩))) :
    Calls Try.prog 32 (#[.string s, .string u] ++ #[.pointer (some ⟨bx, 0, none⟩)]) W fun e w' => e = .returned (.int .i64 (tcf T s u)) ∧ ∃ q os', w' = Go.Sort.grow (W.drewN q) os' := by
  obtain ⟨c0, c1⟩ := h.cells
  obtain ⟨V, hV⟩ : ∃ V, V = ({ W with drawn := W.drawn + 1 } : World) := ⟨_, rfl⟩
  have k1 := (h.mp.same (w' := V) (by rw [hV])).look law_str Try.underlying44 Try.underlying9 (zero_int _) hs
  have k2 := (h.mp.same (w' := V) (by rw [hV])).look law_str Try.underlying44 Try.underlying9 (zero_int _) hu
  rw [int_get] at k1 k2
  have d1 : V.cell? ⟨b, 1, none⟩ = some (.map (some m)) := by rw [hV]; exact c1
  have dx : V.cell? ⟨bx, 0, none⟩ = some (.pointer (some ⟨b, 0, none⟩)) := by rw [hV]; exact hx
  have hv : V = W.drewN 1 := hV
  clear h
  go_enter Try.func32, Try.ntmps32
  go_wp2
  refine wp_region_still_tail 16 (by kernel_rfl) (by kernel_rfl) ?_
  rw [← hV]
  have HV := Lib.hid hv
  clear hV hv hx c0 c1
  simp only [List.take_succ_cons, List.take_zero, List.drop_succ_cons, List.drop_zero]
  repeat (first | still_step | still_call (cmp_any _ _ _) | still_call (cmps_any _ _ _))
  refine wpStill_nil ?_
  have HOr := Lib.hid (or_any V.heap.size (cmpI (ordT T s) (ordT T u)) (cmpS s u) (V.alloc (.cells #[.int .i64 (cmpI (ordT T s) (ordT T u)), .int .i64 (cmpS s u)] 3)) (World.cell?_alloc_at _ _ _ _ rfl) (World.cell?_alloc_at _ _ _ _ rfl))
  go_wp2_with (go_at_call 33; (with_reducible refine HOr.out.mono ?_); rintro e w1 ⟨rfl, rfl⟩)
  go_ret
  exact ⟨rfl, 1, #[_], by rw [← HV.out]; exact Go.Sort.alloc_eq_grow _ _⟩
end Go.Proofs.Yteccmjbgedmfhaa
