/-
  Taints, labels, machines of the program.
-/
import Derived.Test.YtkmhicoimgpdlaaMD
import Derived.Test.YtkmhicoimgpdlaaMB
import Derived.Test.YtkmhicoimgpdlaaMA
import Derived.Maps.OwnSet
import Derived.StringKeys
import Derived.Test.YtkmhicoimgpdlaaME
namespace Go.Proofs.Ytkmhicoimgpdlaa
open Go.RowKit
set_option linter.unusedVariables false
set_option linter.unusedSimpArgs false

theorem toList_inj (a b : ByteArray) : a.toList = b.toList ↔ a = b := str_inj a b


def CellsX (x : Tnt) (b : Nat) (w : World) : Prop := b < w.heap.size ∧ w.cell? ⟨b, 0, none⟩ = some (.string x.key) ∧ w.cell? ⟨b, 1, none⟩ = some (.string x.val) ∧ w.cell? ⟨b, 2, none⟩ = some (.int .i64 x.eff)
theorem CellsX.mono {x : Tnt} {b : Nat} {w w' : World} (h : CellsX x b w) (hb : Below w.heap.size w w') : CellsX x b w' := by
  obtain ⟨h0, h1, h2, h3⟩ := h
  have := hb.size
  exact ⟨by omega, by rw [hb.cell (p := ⟨b, 0, none⟩) h0]; exact h1, by rw [hb.cell (p := ⟨b, 1, none⟩) h0]; exact h2, by rw [hb.cell (p := ⟨b, 2, none⟩) h0]; exact h3⟩
theorem CellsX.new (x : Tnt) (w : World) (t : TypeId) : CellsX x w.heap.size (w.alloc (.cells #[.string x.key, .string x.val, .int .i64 x.eff] t)) := ⟨by simp, by simp [go_sem], by simp [go_sem], by simp [go_sem]⟩
theorem bl_irrefl : ∀ x : List UInt8, Op.bytesLess x x = false
  | [] => rfl
  | a :: x => by
    rw [Op.bytesLess, bl_irrefl x]
    simp [UInt8.lt_irrefl]
theorem bl_trans : ∀ x y z : List UInt8, Op.bytesLess x y = true → Op.bytesLess y z = true → Op.bytesLess x z = true
  | _, [], _, h, _ => by cases h' : (‹List UInt8›) <;> simp [Op.bytesLess] at h
  | _, _ :: _, [], _, h => by simp [Op.bytesLess] at h
  | [], _ :: _, _ :: _, _, _ => rfl
  | a :: x, b :: y, c :: z, h1, h2 => by
    simp only [Op.bytesLess, Bool.or_eq_true, Bool.and_eq_true, decide_eq_true_eq, beq_iff_eq] at h1 h2 ⊢
    rcases h1 with h1 | ⟨rfl, h1⟩
    · rcases h2 with h2 | ⟨rfl, h2⟩
      · exact .inl (UInt8.lt_trans h1 h2)
      · exact .inl h1
    · rcases h2 with h2 | ⟨rfl, h2⟩
      · exact .inl h2
      · exact .inr ⟨rfl, bl_trans x y z h1 h2⟩
theorem bl_tri : ∀ x y : List UInt8, Op.bytesLess x y = false → Op.bytesLess y x = false → x = y
  | [], [], _, _ => rfl
  | [], _ :: _, h, _ => by simp [Op.bytesLess] at h
  | _ :: _, [], _, h => by simp [Op.bytesLess] at h
  | a :: x, b :: y, h1, h2 => by
    simp only [Op.bytesLess, Bool.or_eq_false_iff, Bool.and_eq_false_iff, decide_eq_false_iff_not, beq_eq_false_iff_ne] at h1 h2
    have e : a = b := by
      have := h1.1
      have := h2.1
      exact UInt8.le_antisymm (UInt8.not_lt.1 h2.1) (UInt8.not_lt.1 h1.1)
    subst e
    have h3 := h1.2.resolve_left (fun h => h rfl)
    have h4 := h2.2.resolve_left (fun h => h rfl)
    rw [bl_tri x y h3 h4]
theorem data_drop (a : ByteArray) (i : Nat) (h : i < a.size) : ∃ u : UInt8, u.toNat = (a.get! i).toNat ∧ a.toList.drop i = u :: a.toList.drop (i + 1) := by
  rw [ByteArray.toList_eq]
  have h' : i < a.data.toList.length := by rw [Array.length_toList]; exact h
  refine ⟨a.data.toList[i], ?_, List.drop_eq_getElem_cons h'⟩
  rw [get_bang a i h]
  rfl
theorem data_end (a : ByteArray) (i : Nat) (h : a.size ≤ i) : a.toList.drop i = [] := by
  rw [ByteArray.toList_eq]
  exact List.drop_eq_nil_of_le (by rw [Array.length_toList]; exact h)
theorem less_drop (a b : ByteArray) : ∀ f i, a.size ≤ i + f → i ≤ a.size → i ≤ b.size → lessF a b f i = Op.bytesLess (a.toList.drop i) (b.toList.drop i) := by
  intro f
  have hend : ∀ i, i ≤ a.size → i ≤ b.size → ¬ (i < a.size ∧ i < b.size) → decide (a.size < b.size) = Op.bytesLess (a.toList.drop i) (b.toList.drop i) := by
    intro i h1 h2 h3
    by_cases h4 : i < b.size
    · obtain ⟨u, _, e⟩ := data_drop b i h4
      rw [data_end a i (by omega), e, decide_eq_true (by omega)]
      rfl
    · rw [data_end b i (by omega), decide_eq_false (by omega)]
      cases a.toList.drop i <;> rfl
  induction f with
  | zero =>
    intro i h1 h2 h3
    rw [lessF_end 0 i (by omega)]
    exact hend i h2 h3 (by omega)
  | succ f ih =>
    intro i h1 h2 h3
    by_cases h : i < a.size ∧ i < b.size
    · obtain ⟨u, hu, eu⟩ := data_drop a i h.1
      obtain ⟨v, hv, ev⟩ := data_drop b i h.2
      rw [lessF, if_pos h, eu, ev, Op.bytesLess, ← hu, ← hv]
      by_cases e : u.toNat = v.toNat
      · have e2 : u = v := UInt8.toNat_inj.1 e
        rw [if_pos e, ih (i + 1) (by omega) (by omega) (by omega)]
        subst e2
        simp [UInt8.lt_irrefl]
      · rw [if_neg e]
        have e2 : (u == v) = false := by rw [beq_eq_false_iff_ne]; exact fun h => e (by rw [h])
        rw [e2, Bool.false_and, Bool.or_false]
        exact decide_eq_decide.2 UInt8.lt_iff_toNat_lt.symm
    · rw [lessF_end _ i h]
      exact hend i h2 h3 h
/-- The document's order of texts is the language's. -/
theorem less_eq (a b : ByteArray) : lessB a b = Op.bytesLess a.toList b.toList := by
  have := less_drop a b a.size 0 (by omega) (Nat.zero_le _) (Nat.zero_le _)
  simpa [lessB] using this
theorem less_irrefl (a : ByteArray) : lessB a a = false := by rw [less_eq]; exact bl_irrefl _
theorem less_trans {a b c : ByteArray} (h1 : lessB a b = true) (h2 : lessB b c = true) : lessB a c = true := by
  rw [less_eq] at h1 h2 ⊢
  exact bl_trans _ _ _ h1 h2
theorem less_tri {a b : ByteArray} (h1 : lessB a b = false) (h2 : lessB b a = false) : a = b := by
  rw [less_eq] at h1 h2
  exact (str_inj _ _).1 (bl_tri _ _ h1 h2)

theorem map_kept {H : Type} {P : Program} {k : TypeId} {R : Value → Option (DataW H × List MemPlace)} {w w1 : World} {b n : Nat} {D : DataW H} (h : w.ownsMap P k R b n D) (hb : Below w.heap.size w w1) : w1.ownsMap P k R b n D := by
  obtain ⟨es, clock, hh, r⟩ := h
  refine ⟨es, clock, ?_, r⟩
  rw [hb.block b]
  · exact hh
  · exact (Array.getElem?_eq_some_iff.1 hh).1
/-- The keys that were met. -/
def seenS (l : List Lab) (k : Nat) : DataW Unit := Go.Maps.setOf (.agg []) ((l.take k).map fun x => Lit.string x.key.data.toList)
theorem seen_succ {l : List Lab} {k : Nat} {x : Lab} (hx : l[k]? = some x) : seenS l (k + 1) = (seenS l k).put (.string x.key.data.toList) (.agg []) := by
  unfold seenS
  rw [take_at hx, List.map_append]
  exact Go.Maps.setOf_snoc _ _ _
theorem key_same (a b : ByteArray) : (Lit.string a.data.toList).sameKey (.string b.data.toList) = strB a b := by
  unfold strB
  by_cases h : a = b
  · subst h
    rw [decide_eq_true rfl]
    exact WideAt.sameKey_self (by trivial)
  · rw [decide_eq_false h]
    refine Go.Maps.sameKey_ne fun e => h ?_
    simp only [Lit.string.injEq] at e
    exact ByteArray.ext (Array.toList_inj.1 e)
theorem has_seen (l : List Lab) (k : Nat) (s : ByteArray) : Go.Maps.has (seenS l k) (.string s.data.toList) = (l.take k).any fun y => strB y.key s := by
  unfold seenS
  rw [Go.Maps.has_setOf _ _ _ (fun y hy => by obtain ⟨_, _, rfl⟩ := List.mem_map.1 hy; trivial), List.any_map]
  congr 1
  funext y
  exact key_same _ _
theorem labsTo_at {l : List Lab} {k j : Nat} (h : labsTo l k = true) (hj : j < k) : okL l j = true := List.all_eq_true.1 h j (List.mem_range.2 hj)
theorem labsTo_le {l : List Lab} {k j : Nat} (h : labsTo l k = true) (hj : j ≤ k) : labsTo l j = true := List.all_eq_true.2 fun i hi => labsTo_at h (by have := List.mem_range.1 hi; omega)
/-- All that stand ahead are less. -/
theorem all_less {l : List Lab} : ∀ {k : Nat} {x : Lab}, labsTo l (k + 1) = true → l[k]? = some x → ∀ y ∈ l.take k, lessB y.key x.key = true
  | 0, x, _, _, y, hy => by simp at hy
  | j + 1, x, h, hx, y, hy => by
    obtain ⟨z, hz⟩ := mem_at (l := l) (k := j) (by have := lt_at hx; omega)
    have h1 := labsTo_at h (Nat.lt_succ_self (j + 1))
    rw [okL_succ hx hz] at h1
    simp only [Bool.and_eq_true] at h1
    rw [take_at hz] at hy
    rcases List.mem_append.1 hy with hy | hy
    · exact less_trans (all_less (labsTo_le h (Nat.le_succ _)) hz y hy) h1.2
    · obtain rfl : y = z := by simpa using hy
      exact h1.2
/-- A key that was met: not right. -/
theorem twice_bad {l : List Lab} {k : Nat} {x : Lab} (h : labsTo l k = true) (hx : l[k]? = some x) (ht : (l.take k).any (fun y => strB y.key x.key) = true) : okL l k = false := by
  cases ho : okL l k with
  | false => rfl
  | true =>
    obtain ⟨y, hy, he⟩ := List.any_eq_true.1 ht
    have h1 : labsTo l (k + 1) = true := by rw [labsTo_succ, h, ho]; rfl
    have := all_less h1 hx y hy
    have e : y.key = x.key := of_decide_eq_true he
    rw [e, less_irrefl] at this
    cases this
theorem less_asymm {a b : ByteArray} (h : lessB a b = true) : lessB b a = false := by
  cases h2 : lessB b a with
  | false => rfl
  | true =>
    have := less_trans h h2
    rw [less_irrefl] at this
    cases this
theorem labs_end {l : List Lab} {n : Nat} (hl : l.length = n) (h16 : n ≤ 16) (h : labsTo l n = true) : labsB l = true := by
  unfold labsB
  rw [hl, h, decide_eq_true h16]
  rfl
theorem law_str : Go.Maps.Keyed Try.prog 9 := Go.Maps.string_keyed Try.underlying9
set_option maxRecDepth 100000 in
theorem parts_any (a0 a1 a2 a3 a4 : Int) (w : World) :
    Calls Try.prog 77 #[.agg #[.int .i64 a0, .int .i64 a1, .int .i64 a2, .int .i64 a3, .int .i64 a4]] w fun e w' => e = .returned (.agg #[.int .i64 a0, .int .i64 a1, .int .i64 a2, .int .i64 a3, .int .i64 a4]) ∧ Below w.heap.size w w' := by
  go_enter Try.func77, Try.ntmps77
  go_wp2
  refine bodyPost_ret (v := .agg #[.int .i64 a0, .int .i64 a1, .int .i64 a2, .int .i64 a3, .int .i64 a4]) (by simp [results, Try.results77, go_sem]) rfl ⟨rfl, ?_⟩
  (repeat' (first | with_reducible exact Below.refl _ _ | with_reducible assumption | with_reducible refine Below.drew ?_ | with_reducible refine below_drewN' ?_ _ | with_reducible refine Below.alloc ?_ ?_ _ | with_reducible refine Below.setCell ?_ ?_ _ | with_reducible refine below_step (by assumption) ?_ ?_ | omega | (simp; done) | (simp; omega)))
set_option maxHeartbeats 1000000 in
theorem resright_any (a0 a1 a2 a3 a4 : Int) (w : World) :
    Calls Try.prog 49 #[.agg #[.int .i64 a0, .int .i64 a1, .int .i64 a2, .int .i64 a3, .int .i64 a4]] w fun e w' => e = .returned (.bool (rtB a0 a1 a2 a3 a4)) ∧ Below w.heap.size w w' := by
  have i0 : ∀ w : World, (Instr.index 107 (.agg #[.int .i64 a0, .int .i64 a1, .int .i64 a2, .int .i64 a3, .int .i64 a4]) (.int .i64 0)).run Try.prog w = .ok (.int .i64 a0) w := fun _ => by kernel_rfl
  have i1 : ∀ w : World, (Instr.index 107 (.agg #[.int .i64 a0, .int .i64 a1, .int .i64 a2, .int .i64 a3, .int .i64 a4]) (.int .i64 1)).run Try.prog w = .ok (.int .i64 a1) w := fun _ => by kernel_rfl
  have i2 : ∀ w : World, (Instr.index 107 (.agg #[.int .i64 a0, .int .i64 a1, .int .i64 a2, .int .i64 a3, .int .i64 a4]) (.int .i64 2)).run Try.prog w = .ok (.int .i64 a2) w := fun _ => by kernel_rfl
  have i3 : ∀ w : World, (Instr.index 107 (.agg #[.int .i64 a0, .int .i64 a1, .int .i64 a2, .int .i64 a3, .int .i64 a4]) (.int .i64 3)).run Try.prog w = .ok (.int .i64 a3) w := fun _ => by kernel_rfl
  have i4 : ∀ w : World, (Instr.index 107 (.agg #[.int .i64 a0, .int .i64 a1, .int .i64 a2, .int .i64 a3, .int .i64 a4]) (.int .i64 4)).run Try.prog w = .ok (.int .i64 a4) w := fun _ => by kernel_rfl
  go_enter Try.func49, Try.ntmps49
  go_wp2_with (go_at_call 77; refine (parts_any _ _ _ _ _ _).mono ?_; rintro e w1 ⟨rfl, hb1⟩; obtain ⟨hc1, hf1⟩ := bcell hb1; have hz1 := hb1.size; (try simp at hz1); (try have hza : w.heap.size < w1.heap.size := by omega); (try have hzb : w.heap.size + 1 < w1.heap.size := by omega); (try have hzc : w.heap.size + 1 + 1 < w1.heap.size := by omega); (try have hzd : w.heap.size + 1 + 1 + 1 < w1.heap.size := by omega))
  refine wp_loop_rounds 6 ?_
  iterate 6
    all_goals (try rw [rounds_succ])
    all_goals (try go_wp2)
  all_goals (go_ret; exact ⟨by simp [rtB, okB]; omega, by (repeat' (first | with_reducible exact Below.refl _ _ | with_reducible assumption | with_reducible refine Below.drew ?_ | with_reducible refine below_drewN' ?_ _ | with_reducible refine Below.alloc ?_ ?_ _ | with_reducible refine Below.setCell ?_ ?_ _ | with_reducible refine below_step (by assumption) ?_ ?_ | omega | (simp; done) | (simp; omega)))⟩)

def inB (n lo hi : Int) : Bool := decide (lo ≤ n ∧ n ≤ hi)
set_option maxRecDepth 100000 in
theorem in_any (n lo hi : Int) (w : World) :
    Calls Try.prog 70 #[.int .i64 n, .int .i64 lo, .int .i64 hi] w fun e w' => e = .returned (.bool (inB n lo hi)) ∧ Below w.heap.size w w' := by
  unfold inB
  by_cases h1 : lo ≤ n
  · by_cases h2 : n ≤ hi
    · rw [decide_eq_true ⟨h1, h2⟩]
      go_enter Try.func70, Try.ntmps70
      go_wp2
      go_ret
      exact ⟨by first | rfl | (simp; omega), by (repeat' (first | with_reducible exact Below.refl _ _ | with_reducible assumption | with_reducible refine Below.drew ?_ | with_reducible refine below_drewN' ?_ _ | with_reducible refine Below.alloc ?_ ?_ _ | with_reducible refine Below.setCell ?_ ?_ _ | with_reducible refine below_step (by assumption) ?_ ?_ | omega | (simp; done) | (simp; omega)))⟩
    · rw [decide_eq_false (fun h => h2 h.2)]
      go_enter Try.func70, Try.ntmps70
      go_wp2
      go_ret
      exact ⟨by first | rfl | (simp; omega), by (repeat' (first | with_reducible exact Below.refl _ _ | with_reducible assumption | with_reducible refine Below.drew ?_ | with_reducible refine below_drewN' ?_ _ | with_reducible refine Below.alloc ?_ ?_ _ | with_reducible refine Below.setCell ?_ ?_ _ | with_reducible refine below_step (by assumption) ?_ ?_ | omega | (simp; done) | (simp; omega)))⟩
  · have h1' : n < lo := by omega
    rw [decide_eq_false (fun h => h1 h.1)]
    go_enter Try.func70, Try.ntmps70
    go_wp2
    go_ret
    exact ⟨by first | rfl | (simp; omega), by (repeat' (first | with_reducible exact Below.refl _ _ | with_reducible assumption | with_reducible refine Below.drew ?_ | with_reducible refine below_drewN' ?_ _ | with_reducible refine Below.alloc ?_ ?_ _ | with_reducible refine Below.setCell ?_ ?_ _ | with_reducible refine below_step (by assumption) ?_ ?_ | omega | (simp; done) | (simp; omega)))⟩
def rightG (g : Gp) : Bool := wordB g.nm && inB g.mx 1 200 && inB g.mn 0 g.mx && inB g.pr 0 1125899906842624 && inB g.rk 0 1000 && rightM g.like && decide (g.like.nm = emp) && decide (g.like.gp = g.nm) && g.like.rd

end Go.Proofs.Ytkmhicoimgpdlaa
