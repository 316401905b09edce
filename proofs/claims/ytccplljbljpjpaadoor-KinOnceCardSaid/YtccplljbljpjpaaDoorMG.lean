/-
  Taints, labels, machines of the program.
-/
import Derived.Test.YtccplljbljpjpaaDoorMD
import Derived.Test.YtccplljbljpjpaaDoorMB
import Derived.Test.YtccplljbljpjpaaDoorMA
import Derived.Maps.OwnSet
import Derived.StringKeys
import Derived.Test.YtccplljbljpjpaaDoorME
namespace Go.Proofs.YtccplljbljpjpaaDoor
open Go.RowKit
set_option linter.unusedVariables false
set_option linter.unusedSimpArgs false

theorem toList_inj (a b : ByteArray) : a.toList = b.toList ↔ a = b := str_inj a b


set_option maxRecDepth 100000 in
theorem wordorempty_any (s : ByteArray) (w : World) :
    Calls Tryd.prog 51 #[.string s] w fun e w' => e = .returned (.bool (weB s)) ∧ Below w.heap.size w w' := by
  unfold weB
  by_cases h : s = emp
  · obtain ⟨h1, h2, h3, h4⟩ := emp_lits h
    rw [decide_eq_true h]
    clear h
    go_enter Tryd.func51, Tryd.ntmps51
    go_wp2
    go_ret
    exact ⟨rfl, by (repeat' (first | with_reducible exact Below.refl _ _ | with_reducible assumption | with_reducible refine Below.drew ?_ | with_reducible refine below_drewN' ?_ _ | with_reducible refine Below.alloc ?_ ?_ _ | with_reducible refine Below.setCell ?_ ?_ _ | with_reducible refine below_step (by assumption) ?_ ?_ | omega | (simp; done) | (simp; omega)))⟩
  · obtain ⟨h1, h2, h3, h4⟩ := emp_litn h
    rw [decide_eq_false h]
    clear h
    go_enter Tryd.func51, Tryd.ntmps51
    go_wp2_with (go_at_call 24; refine (word_any _ _).mono ?_; rintro e w1 ⟨rfl, hb1⟩; obtain ⟨hc1, hf1⟩ := bcell hb1; have hz1 := hb1.size; (try simp at hz1); (try have hza : w.heap.size < w1.heap.size := by omega); (try have hzb : w.heap.size + 1 < w1.heap.size := by omega); (try have hzc : w.heap.size + 1 + 1 < w1.heap.size := by omega); (try have hzd : w.heap.size + 1 + 1 + 1 < w1.heap.size := by omega))
    go_ret
    exact ⟨rfl, by (repeat' (first | with_reducible exact Below.refl _ _ | with_reducible assumption | with_reducible refine Below.drew ?_ | with_reducible refine below_drewN' ?_ _ | with_reducible refine Below.alloc ?_ ?_ _ | with_reducible refine Below.setCell ?_ ?_ _ | with_reducible refine below_step (by assumption) ?_ ?_ | omega | (simp; done) | (simp; omega)))⟩
set_option maxRecDepth 100000 in
theorem righteffect_any (x : Int) (w : World) :
    Calls Tryd.prog 52 #[.int .i64 x] w fun e w' => e = .returned (.bool (reB x)) ∧ Below w.heap.size w w' := by
  rcases reB_cases x with ⟨h0, h⟩ | ⟨h0, h1, h⟩ | ⟨h0, h1, h2, h⟩ | ⟨h0, h1, h2, h3, h⟩ | ⟨h0, h1, h2, h3, h⟩
  all_goals
    rw [h]
    clear h
    go_enter Tryd.func52, Tryd.ntmps52
    go_wp2
    go_ret
    exact ⟨rfl, by (repeat' (first | with_reducible exact Below.refl _ _ | with_reducible assumption | with_reducible refine Below.drew ?_ | with_reducible refine below_drewN' ?_ _ | with_reducible refine Below.alloc ?_ ?_ _ | with_reducible refine Below.setCell ?_ ?_ _ | with_reducible refine below_step (by assumption) ?_ ?_ | omega | (simp; done) | (simp; omega)))⟩
def CellsX (x : Tnt) (b : Nat) (w : World) : Prop := b < w.heap.size ∧ w.cell? ⟨b, 0, none⟩ = some (.string x.key) ∧ w.cell? ⟨b, 1, none⟩ = some (.string x.val) ∧ w.cell? ⟨b, 2, none⟩ = some (.int .i64 x.eff)
theorem CellsX.mono {x : Tnt} {b : Nat} {w w' : World} (h : CellsX x b w) (hb : Below w.heap.size w w') : CellsX x b w' := by
  obtain ⟨h0, h1, h2, h3⟩ := h
  have := hb.size
  exact ⟨by omega, by rw [hb.cell (p := ⟨b, 0, none⟩) h0]; exact h1, by rw [hb.cell (p := ⟨b, 1, none⟩) h0]; exact h2, by rw [hb.cell (p := ⟨b, 2, none⟩) h0]; exact h3⟩
theorem CellsX.new (x : Tnt) (w : World) (t : TypeId) : CellsX x w.heap.size (w.alloc (.cells #[.string x.key, .string x.val, .int .i64 x.eff] t)) := ⟨by simp, by simp [go_sem], by simp [go_sem], by simp [go_sem]⟩
theorem bl_irrefl : ∀ x : List UInt8, Op.bytesLess x x = false
  | [] => rfl
  | a :: x => by
    rw [Op.bytesLess, bl_irrefl x]
    simp [UInt8.lt_irrefl]
theorem bl_trans : ∀ x y z : List UInt8, Op.bytesLess x y = true → Op.bytesLess y z = true → Op.bytesLess x z = true
  | _, [], _, h, _ => by cases h' : (‹List UInt8›) <;> simp [Op.bytesLess] at h
  | _, _ :: _, [], _, h => by simp [Op.bytesLess] at h
  | [], _ :: _, _ :: _, _, _ => rfl
  | a :: x, b :: y, c :: z, h1, h2 => by
    simp only [Op.bytesLess, Bool.or_eq_true, Bool.and_eq_true, decide_eq_true_eq, beq_iff_eq] at h1 h2 ⊢
    rcases h1 with h1 | ⟨rfl, h1⟩
    · rcases h2 with h2 | ⟨rfl, h2⟩
      · exact .inl (UInt8.lt_trans h1 h2)
      · exact .inl h1
    · rcases h2 with h2 | ⟨rfl, h2⟩
      · exact .inl h2
      · exact .inr ⟨rfl, bl_trans x y z h1 h2⟩
theorem bl_tri : ∀ x y : List UInt8, Op.bytesLess x y = false → Op.bytesLess y x = false → x = y
  | [], [], _, _ => rfl
  | [], _ :: _, h, _ => by simp [Op.bytesLess] at h
  | _ :: _, [], _, h => by simp [Op.bytesLess] at h
  | a :: x, b :: y, h1, h2 => by
    simp only [Op.bytesLess, Bool.or_eq_false_iff, Bool.and_eq_false_iff, decide_eq_false_iff_not, beq_eq_false_iff_ne] at h1 h2
    have e : a = b := by
      have := h1.1
      have := h2.1
      exact UInt8.le_antisymm (UInt8.not_lt.1 h2.1) (UInt8.not_lt.1 h1.1)
    subst e
    have h3 := h1.2.resolve_left (fun h => h rfl)
    have h4 := h2.2.resolve_left (fun h => h rfl)
    rw [bl_tri x y h3 h4]
theorem data_drop (a : ByteArray) (i : Nat) (h : i < a.size) : ∃ u : UInt8, u.toNat = (a.get! i).toNat ∧ a.toList.drop i = u :: a.toList.drop (i + 1) := by
  rw [ByteArray.toList_eq]
  have h' : i < a.data.toList.length := by rw [Array.length_toList]; exact h
  refine ⟨a.data.toList[i], ?_, List.drop_eq_getElem_cons h'⟩
  rw [get_bang a i h]
  rfl
theorem data_end (a : ByteArray) (i : Nat) (h : a.size ≤ i) : a.toList.drop i = [] := by
  rw [ByteArray.toList_eq]
  exact List.drop_eq_nil_of_le (by rw [Array.length_toList]; exact h)
theorem less_drop (a b : ByteArray) : ∀ f i, a.size ≤ i + f → i ≤ a.size → i ≤ b.size → lessF a b f i = Op.bytesLess (a.toList.drop i) (b.toList.drop i) := by
  intro f
  have hend : ∀ i, i ≤ a.size → i ≤ b.size → ¬ (i < a.size ∧ i < b.size) → decide (a.size < b.size) = Op.bytesLess (a.toList.drop i) (b.toList.drop i) := by
    intro i h1 h2 h3
    by_cases h4 : i < b.size
    · obtain ⟨u, _, e⟩ := data_drop b i h4
      rw [data_end a i (by omega), e, decide_eq_true (by omega)]
      rfl
    · rw [data_end b i (by omega), decide_eq_false (by omega)]
      cases a.toList.drop i <;> rfl
  induction f with
  | zero =>
    intro i h1 h2 h3
    rw [lessF_end 0 i (by omega)]
    exact hend i h2 h3 (by omega)
  | succ f ih =>
    intro i h1 h2 h3
    by_cases h : i < a.size ∧ i < b.size
    · obtain ⟨u, hu, eu⟩ := data_drop a i h.1
      obtain ⟨v, hv, ev⟩ := data_drop b i h.2
      rw [lessF, if_pos h, eu, ev, Op.bytesLess, ← hu, ← hv]
      by_cases e : u.toNat = v.toNat
      · have e2 : u = v := UInt8.toNat_inj.1 e
        rw [if_pos e, ih (i + 1) (by omega) (by omega) (by omega)]
        subst e2
        simp [UInt8.lt_irrefl]
      · rw [if_neg e]
        have e2 : (u == v) = false := by rw [beq_eq_false_iff_ne]; exact fun h => e (by rw [h])
        rw [e2, Bool.false_and, Bool.or_false]
        exact decide_eq_decide.2 UInt8.lt_iff_toNat_lt.symm
    · rw [lessF_end _ i h]
      exact hend i h2 h3 h
/-- The document's order of texts is the language's. -/
theorem less_eq (a b : ByteArray) : lessB a b = Op.bytesLess a.toList b.toList := by
  have := less_drop a b a.size 0 (by omega) (Nat.zero_le _) (Nat.zero_le _)
  simpa [lessB] using this
theorem less_irrefl (a : ByteArray) : lessB a a = false := by rw [less_eq]; exact bl_irrefl _
theorem less_trans {a b c : ByteArray} (h1 : lessB a b = true) (h2 : lessB b c = true) : lessB a c = true := by
  rw [less_eq] at h1 h2 ⊢
  exact bl_trans _ _ _ h1 h2
theorem less_tri {a b : ByteArray} (h1 : lessB a b = false) (h2 : lessB b a = false) : a = b := by
  rw [less_eq] at h1 h2
  exact (str_inj _ _).1 (bl_tri _ _ h1 h2)

set_option maxRecDepth 100000 in
theorem lwordorempty_any (s : ByteArray) (w : World) :
    Calls Tryd.prog 49 #[.string s] w fun e w' => e = .returned (.bool (weB s)) ∧ Below w.heap.size w w' := by
  unfold weB
  by_cases h : s = emp
  · obtain ⟨h1, h2, h3, h4⟩ := emp_lits h
    rw [decide_eq_true h]
    clear h
    go_enter Tryd.func49, Tryd.ntmps49
    go_wp2
    go_ret
    exact ⟨rfl, by (repeat' (first | with_reducible exact Below.refl _ _ | with_reducible assumption | with_reducible refine Below.drew ?_ | with_reducible refine below_drewN' ?_ _ | with_reducible refine Below.alloc ?_ ?_ _ | with_reducible refine Below.setCell ?_ ?_ _ | with_reducible refine below_step (by assumption) ?_ ?_ | omega | (simp; done) | (simp; omega)))⟩
  · obtain ⟨h1, h2, h3, h4⟩ := emp_litn h
    rw [decide_eq_false h]
    clear h
    go_enter Tryd.func49, Tryd.ntmps49
    go_wp2_with (go_at_call 24; refine (word_any _ _).mono ?_; rintro e w1 ⟨rfl, hb1⟩; obtain ⟨hc1, hf1⟩ := bcell hb1; have hz1 := hb1.size; (try simp at hz1); (try have hza : w.heap.size < w1.heap.size := by omega); (try have hzb : w.heap.size + 1 < w1.heap.size := by omega); (try have hzc : w.heap.size + 1 + 1 < w1.heap.size := by omega); (try have hzd : w.heap.size + 1 + 1 + 1 < w1.heap.size := by omega))
    go_ret
    exact ⟨rfl, by (repeat' (first | with_reducible exact Below.refl _ _ | with_reducible assumption | with_reducible refine Below.drew ?_ | with_reducible refine below_drewN' ?_ _ | with_reducible refine Below.alloc ?_ ?_ _ | with_reducible refine Below.setCell ?_ ?_ _ | with_reducible refine below_step (by assumption) ?_ ?_ | omega | (simp; done) | (simp; omega)))⟩
theorem map_kept {H : Type} {P : Program} {k : TypeId} {R : Value → Option (DataW H × List MemPlace)} {w w1 : World} {b n : Nat} {D : DataW H} (h : w.ownsMap P k R b n D) (hb : Below w.heap.size w w1) : w1.ownsMap P k R b n D := by
  obtain ⟨es, clock, hh, r⟩ := h
  refine ⟨es, clock, ?_, r⟩
  rw [hb.block b]
  · exact hh
  · exact (Array.getElem?_eq_some_iff.1 hh).1
/-- The keys that were met. -/
def seenS (l : List Lab) (k : Nat) : DataW Unit := Go.Maps.setOf (.agg []) ((l.take k).map fun x => Lit.string x.key.data.toList)
theorem seen_succ {l : List Lab} {k : Nat} {x : Lab} (hx : l[k]? = some x) : seenS l (k + 1) = (seenS l k).put (.string x.key.data.toList) (.agg []) := by
  unfold seenS
  rw [take_at hx, List.map_append]
  exact Go.Maps.setOf_snoc _ _ _
theorem key_same (a b : ByteArray) : (Lit.string a.data.toList).sameKey (.string b.data.toList) = strB a b := by
  unfold strB
  by_cases h : a = b
  · subst h
    rw [decide_eq_true rfl]
    exact WideAt.sameKey_self (by trivial)
  · rw [decide_eq_false h]
    refine Go.Maps.sameKey_ne fun e => h ?_
    simp only [Lit.string.injEq] at e
    exact ByteArray.ext (Array.toList_inj.1 e)
theorem has_seen (l : List Lab) (k : Nat) (s : ByteArray) : Go.Maps.has (seenS l k) (.string s.data.toList) = (l.take k).any fun y => strB y.key s := by
  unfold seenS
  rw [Go.Maps.has_setOf _ _ _ (fun y hy => by obtain ⟨_, _, rfl⟩ := List.mem_map.1 hy; trivial), List.any_map]
  congr 1
  funext y
  exact key_same _ _
theorem labsTo_at {l : List Lab} {k j : Nat} (h : labsTo l k = true) (hj : j < k) : okL l j = true := List.all_eq_true.1 h j (List.mem_range.2 hj)
theorem labsTo_le {l : List Lab} {k j : Nat} (h : labsTo l k = true) (hj : j ≤ k) : labsTo l j = true := List.all_eq_true.2 fun i hi => labsTo_at h (by have := List.mem_range.1 hi; omega)
/-- All that stand ahead are less. -/
theorem all_less {l : List Lab} : ∀ {k : Nat} {x : Lab}, labsTo l (k + 1) = true → l[k]? = some x → ∀ y ∈ l.take k, lessB y.key x.key = true
  | 0, x, _, _, y, hy => by simp at hy
  | j + 1, x, h, hx, y, hy => by
    obtain ⟨z, hz⟩ := mem_at (l := l) (k := j) (by have := lt_at hx; omega)
    have h1 := labsTo_at h (Nat.lt_succ_self (j + 1))
    rw [okL_succ hx hz] at h1
    simp only [Bool.and_eq_true] at h1
    rw [take_at hz] at hy
    rcases List.mem_append.1 hy with hy | hy
    · exact less_trans (all_less (labsTo_le h (Nat.le_succ _)) hz y hy) h1.2
    · obtain rfl : y = z := by simpa using hy
      exact h1.2
/-- A key that was met: not right. -/
theorem twice_bad {l : List Lab} {k : Nat} {x : Lab} (h : labsTo l k = true) (hx : l[k]? = some x) (ht : (l.take k).any (fun y => strB y.key x.key) = true) : okL l k = false := by
  cases ho : okL l k with
  | false => rfl
  | true =>
    obtain ⟨y, hy, he⟩ := List.any_eq_true.1 ht
    have h1 : labsTo l (k + 1) = true := by rw [labsTo_succ, h, ho]; rfl
    have := all_less h1 hx y hy
    have e : y.key = x.key := of_decide_eq_true he
    rw [e, less_irrefl] at this
    cases this
theorem less_asymm {a b : ByteArray} (h : lessB a b = true) : lessB b a = false := by
  cases h2 : lessB b a with
  | false => rfl
  | true =>
    have := less_trans h h2
    rw [less_irrefl] at this
    cases this
theorem labs_end {l : List Lab} {n : Nat} (hl : l.length = n) (h16 : n ≤ 16) (h : labsTo l n = true) : labsB l = true := by
  unfold labsB
  rw [hl, h, decide_eq_true h16]
  rfl
theorem zero_unit (w : World) : (zeroValue 56).run Tryd.prog w = .ok (.agg #[]) w := by kernel_rfl
theorem law_str : Go.Maps.Keyed Tryd.prog 9 := Go.Maps.string_keyed Tryd.underlying9
set_option maxRecDepth 100000 in
set_option maxHeartbeats 8000000 in
theorem lright_any (c : Option Addr) (kc : Nat) (l : List Lab) (w : World) (hF : LabL w c l) (hm : l.length ≤ maxLen) (hs : ∀ x ∈ l, x.key.size ≤ 1000000000) :
    Calls Tryd.prog 27 #[.slice c l.length kc] w fun e w' => e = .returned (.bool (labsB l)) ∧ Below w.heap.size w w' := by
  have HF := Lib.hid hF
  have Hs := Lib.hid hs
  clear hF hs
  by_cases h16 : 16 < l.length
  · have hr : labsB l = false := by unfold labsB; rw [decide_eq_false (by omega)]; rfl
    rw [hr]
    clear hr
    unfold maxLen at hm
    go_enter Tryd.func27, Tryd.ntmps27
    go_wp2
    go_ret
    exact ⟨rfl, by (repeat' (first | with_reducible exact Below.refl _ _ | with_reducible assumption | with_reducible refine Below.drew ?_ | with_reducible refine below_drewN' ?_ _ | with_reducible refine Below.alloc ?_ ?_ _ | with_reducible refine Below.setCell ?_ ?_ _ | with_reducible refine below_step (by assumption) ?_ ?_ | omega | (simp; done) | (simp; omega)))⟩
  · obtain ⟨n, hln⟩ : ∃ n, l.length = n := ⟨_, rfl⟩
    rw [hln] at hm h16 ⊢
    have Hln := Lib.hid hln
    clear hln hm
    have hmm := @run_makeMap Tryd.prog
    go_enter Tryd.func27, Tryd.ntmps27
    go_wp2
    go_loopw [14] (fun i wr => ∃ k : Nat, k ≤ n ∧ i = .int .i64 k ∧ labsTo l k = true ∧ wr.ownsMap Tryd.prog 9 (unitElem (H := Unit)) w.heap.size k (seenS l k) ∧ Below w.heap.size w wr) (fun i _ => n - (intOf i).toNat)
    case atStart => exact ⟨0, by omega, rfl, rfl, World.ownsMap_made _ _ _ _, by (repeat' (first | with_reducible exact Below.refl _ _ | with_reducible assumption | with_reducible refine Below.drew ?_ | with_reducible refine below_drewN' ?_ _ | with_reducible refine Below.alloc ?_ ?_ _ | with_reducible refine Below.setCell ?_ ?_ _ | with_reducible refine below_step (by assumption) ?_ ?_ | omega | (simp; done) | (simp; omega)))⟩
    case round =>
      obtain ⟨k, hk, rfl, hE, hown, hB⟩ := hrel
      obtain ⟨hcB, hfB⟩ := bcell hB
      have hbz := hB.size
      have HE := Lib.hid hE
      have HB := Lib.hid hB
      have HM := Lib.hid hown
      clear hE hown
      by_cases hlt : k < n
      · obtain ⟨x, hx⟩ := mem_at (l := l) (k := k) (by rw [Hln.out]; exact hlt)
        obtain ⟨b, off, rfl, hb, hc⟩ := HF.out (by rw [Hln.out]; omega)
        have hbw : b < wr.heap.size := by omega
        obtain ⟨c0, c1⟩ := lab_cells (hc k x hx)
        have Hx := Lib.hid hx
        have hsx := Hs.out x (List.mem_of_getElem? hx)
        have Hkey := Lib.hid (Go.WideMaps.keyOf_string_mk (P := Tryd.prog) (k := 9) Tryd.underlying9 (s := x.key) (by unfold maxLen; omega))
        have Hhas := Lib.hid (has_seen l k x.key)
        clear hx
        have q0 : wr.heap.size < wr.heap.size + 1 + 1 := by omega
        have q1 : wr.heap.size < wr.heap.size + 2 := by omega
        have q2 : wr.heap.size + 1 < wr.heap.size + 2 := by omega
        have q3 : b < wr.heap.size + 1 + 1 := by omega
        have q4 : b < wr.heap.size + 2 := by omega
        have q5 : b < wr.heap.size + 1 := by omega
        have q6 : b ≤ wr.heap.size := by omega
        cases ht : (l.take k).any (fun y => strB y.key x.key)
        · rcases k with _ | j
          · rw [Nat.zero_mul, Nat.add_zero] at c0 c1
            have Hok := Lib.hid (okL_zero Hx.out)
            have Ht := Lib.hid ht
            clear ht hc
            cases k1 : wordB x.key
            · have Hs := Lib.hid (labs_bad (lt_at Hx.out) (by rw [Hok.out, k1]; rfl))
              have K1 := Lib.hid k1
              clear k1
              go_wp2_with (at_lookup; refine wpList_lookup_own_unit _ rfl _ _ 55 rfl 9 56 law_str Tryd.underlying55 (zero_unit _) w.heap.size (0) _ rfl (HM.out.alloc _) _ _ rfl Hkey.out ?_; rw [Hhas.out, Ht.out])
              have hcH := held_cell
              refine region_rel (by kernel_rfl) (by kernel_rfl) ?_
              repeat
                ((with_reducible refine relStep (fun K hK => ?_))
                 (have HK := Lib.hid hK)
                 clear hK
                 (first
                   | (apply relInl
                      · intro r n hf
                        have Hf := Lib.hid hf
                        clear hf
                        unfold relAt
                        go_simp
                        (first | (refine relUpon_val ?_ (Below.refl _ _); exact rfl) | exact rfl | (refine relUpon_enter ?_; fail))
                      (simp only [Act.put, List.setIfInBounds_toArray, List.set_cons_zero, List.set_cons_succ])
                      (with_reducible refine HK.out _ _ ?_)
                      clear HK K)
                   | (fail)))
              refine relNil ?_
              intro r5 n5 hx5
              clear hcH
              (try simp only [List.nil_append, List.cons_append, List.mem_cons, List.not_mem_nil, or_false, forall_eq_or_imp, forall_eq, false_implies, implies_true] at hx5)
              obtain ⟨w5, hb5⟩ := n5
              (try dsimp only)
              obtain ⟨hc5, hf5⟩ := bcell hb5
              have hz5 := hb5.size
              (try simp at hz5)
              have HB5 := Lib.hid (show Below wr.heap.size wr w5 by (repeat' (first | with_reducible exact Below.refl _ _ | with_reducible assumption | with_reducible refine Below.drew ?_ | with_reducible refine below_drewN' ?_ _ | with_reducible refine Below.alloc ?_ ?_ _ | with_reducible refine Below.setCell ?_ ?_ _ | with_reducible refine below_step (by assumption) ?_ ?_ | omega | (simp; done) | (simp; omega))))
              have z5_0 : wr.heap.size < w5.heap.size := (by omega); have y5_0 : wr.heap.size ≤ w5.heap.size := (by omega); have z5_1 : wr.heap.size + 1 < w5.heap.size := (by omega); have y5_1 : wr.heap.size + 1 ≤ w5.heap.size := (by omega)
              go_wp2_with (go_at_call 24; (with_reducible refine (word_any x.key _).mono ?_); rw [K1.out]; rintro e w6 ⟨rfl, hb6⟩; obtain ⟨hc6, hf6⟩ := bcell hb6; have hz6 := hb6.size; have z6_0 : wr.heap.size < w6.heap.size := (by omega); have y6_0 : wr.heap.size ≤ w6.heap.size := (by omega); have z6_1 : wr.heap.size + 1 < w6.heap.size := (by omega); have y6_1 : wr.heap.size + 1 ≤ w6.heap.size := (by omega); have HB6 := Lib.hid (HB5.out.trans (hb6.mono HB5.out.size)))
              go_ret
              exact ⟨by rw [Hs.out]; rfl, HB.out.trans (HB6.out.mono HB.out.size)⟩
            · cases k2 : weB x.val
              · have Hs := Lib.hid (labs_bad (lt_at Hx.out) (by rw [Hok.out, k1, k2]; rfl))
                have K1 := Lib.hid k1
                have K2 := Lib.hid k2
                clear k1 k2
                go_wp2_with (at_lookup; refine wpList_lookup_own_unit _ rfl _ _ 55 rfl 9 56 law_str Tryd.underlying55 (zero_unit _) w.heap.size (0) _ rfl (HM.out.alloc _) _ _ rfl Hkey.out ?_; rw [Hhas.out, Ht.out])
                have hcH := held_cell
                refine region_rel (by kernel_rfl) (by kernel_rfl) ?_
                repeat
                  ((with_reducible refine relStep (fun K hK => ?_))
                   (have HK := Lib.hid hK)
                   clear hK
                   (first
                     | (apply relInl
                        · intro r n hf
                          have Hf := Lib.hid hf
                          clear hf
                          unfold relAt
                          go_simp
                          (first | (refine relUpon_val ?_ (Below.refl _ _); exact rfl) | exact rfl | (refine relUpon_enter ?_; fail))
                        (simp only [Act.put, List.setIfInBounds_toArray, List.set_cons_zero, List.set_cons_succ])
                        (with_reducible refine HK.out _ _ ?_)
                        clear HK K)
                     | (fail)))
                refine relNil ?_
                intro r5 n5 hx5
                clear hcH
                (try simp only [List.nil_append, List.cons_append, List.mem_cons, List.not_mem_nil, or_false, forall_eq_or_imp, forall_eq, false_implies, implies_true] at hx5)
                obtain ⟨w5, hb5⟩ := n5
                (try dsimp only)
                obtain ⟨hc5, hf5⟩ := bcell hb5
                have hz5 := hb5.size
                (try simp at hz5)
                have HB5 := Lib.hid (show Below wr.heap.size wr w5 by (repeat' (first | with_reducible exact Below.refl _ _ | with_reducible assumption | with_reducible refine Below.drew ?_ | with_reducible refine below_drewN' ?_ _ | with_reducible refine Below.alloc ?_ ?_ _ | with_reducible refine Below.setCell ?_ ?_ _ | with_reducible refine below_step (by assumption) ?_ ?_ | omega | (simp; done) | (simp; omega))))
                have z5_0 : wr.heap.size < w5.heap.size := (by omega); have y5_0 : wr.heap.size ≤ w5.heap.size := (by omega); have z5_1 : wr.heap.size + 1 < w5.heap.size := (by omega); have y5_1 : wr.heap.size + 1 ≤ w5.heap.size := (by omega)
                go_wp2_with (first | (go_at_call 24; (with_reducible refine (word_any x.key _).mono ?_); rw [K1.out]; rintro e w6 ⟨rfl, hb6⟩; obtain ⟨hc6, hf6⟩ := bcell hb6; have hz6 := hb6.size; have z6_0 : wr.heap.size < w6.heap.size := (by omega); have y6_0 : wr.heap.size ≤ w6.heap.size := (by omega); have z6_1 : wr.heap.size + 1 < w6.heap.size := (by omega); have y6_1 : wr.heap.size + 1 ≤ w6.heap.size := (by omega); have HB6 := Lib.hid (HB5.out.trans (hb6.mono HB5.out.size))) | (go_at_call 49; (with_reducible refine (lwordorempty_any x.val _).mono ?_); rw [K2.out]; rintro e w7 ⟨rfl, hb7⟩; obtain ⟨hc7, hf7⟩ := bcell hb7; have hz7 := hb7.size; have z7_0 : wr.heap.size < w7.heap.size := (by omega); have y7_0 : wr.heap.size ≤ w7.heap.size := (by omega); have z7_1 : wr.heap.size + 1 < w7.heap.size := (by omega); have y7_1 : wr.heap.size + 1 ≤ w7.heap.size := (by omega); have HB7 := Lib.hid (HB6.out.trans (hb7.mono HB6.out.size)); have HM7 := Lib.hid (map_kept HM.out HB7.out)))
                go_ret
                exact ⟨by rw [Hs.out]; rfl, HB.out.trans (HB7.out.mono HB.out.size)⟩
              · have Hs := Lib.hid (show labsTo l (0 + 1) = true by rw [labsTo_succ, HE.out, Hok.out, k1, k2]; rfl)
                have Hsn := Lib.hid (seen_succ Hx.out)
                have K1 := Lib.hid k1
                have K2 := Lib.hid k2
                clear k1 k2
                go_wp2_with (at_lookup; refine wpList_lookup_own_unit _ rfl _ _ 55 rfl 9 56 law_str Tryd.underlying55 (zero_unit _) w.heap.size (0) _ rfl (HM.out.alloc _) _ _ rfl Hkey.out ?_; rw [Hhas.out, Ht.out])
                have hcH := held_cell
                refine region_rel (by kernel_rfl) (by kernel_rfl) ?_
                repeat
                  ((with_reducible refine relStep (fun K hK => ?_))
                   (have HK := Lib.hid hK)
                   clear hK
                   (first
                     | (apply relInl
                        · intro r n hf
                          have Hf := Lib.hid hf
                          clear hf
                          unfold relAt
                          go_simp
                          (first | (refine relUpon_val ?_ (Below.refl _ _); exact rfl) | exact rfl | (refine relUpon_enter ?_; fail))
                        (simp only [Act.put, List.setIfInBounds_toArray, List.set_cons_zero, List.set_cons_succ])
                        (with_reducible refine HK.out _ _ ?_)
                        clear HK K)
                     | (fail)))
                refine relNil ?_
                intro r5 n5 hx5
                clear hcH
                (try simp only [List.nil_append, List.cons_append, List.mem_cons, List.not_mem_nil, or_false, forall_eq_or_imp, forall_eq, false_implies, implies_true] at hx5)
                obtain ⟨w5, hb5⟩ := n5
                (try dsimp only)
                obtain ⟨hc5, hf5⟩ := bcell hb5
                have hz5 := hb5.size
                (try simp at hz5)
                have HB5 := Lib.hid (show Below wr.heap.size wr w5 by (repeat' (first | with_reducible exact Below.refl _ _ | with_reducible assumption | with_reducible refine Below.drew ?_ | with_reducible refine below_drewN' ?_ _ | with_reducible refine Below.alloc ?_ ?_ _ | with_reducible refine Below.setCell ?_ ?_ _ | with_reducible refine below_step (by assumption) ?_ ?_ | omega | (simp; done) | (simp; omega))))
                have z5_0 : wr.heap.size < w5.heap.size := (by omega); have y5_0 : wr.heap.size ≤ w5.heap.size := (by omega); have z5_1 : wr.heap.size + 1 < w5.heap.size := (by omega); have y5_1 : wr.heap.size + 1 ≤ w5.heap.size := (by omega)
                go_wp2_with (first | (go_at_call 24; (with_reducible refine (word_any x.key _).mono ?_); rw [K1.out]; rintro e w6 ⟨rfl, hb6⟩; obtain ⟨hc6, hf6⟩ := bcell hb6; have hz6 := hb6.size; have z6_0 : wr.heap.size < w6.heap.size := (by omega); have y6_0 : wr.heap.size ≤ w6.heap.size := (by omega); have z6_1 : wr.heap.size + 1 < w6.heap.size := (by omega); have y6_1 : wr.heap.size + 1 ≤ w6.heap.size := (by omega); have HB6 := Lib.hid (HB5.out.trans (hb6.mono HB5.out.size))) | (go_at_call 49; (with_reducible refine (lwordorempty_any x.val _).mono ?_); rw [K2.out]; rintro e w7 ⟨rfl, hb7⟩; obtain ⟨hc7, hf7⟩ := bcell hb7; have hz7 := hb7.size; have z7_0 : wr.heap.size < w7.heap.size := (by omega); have y7_0 : wr.heap.size ≤ w7.heap.size := (by omega); have z7_1 : wr.heap.size + 1 < w7.heap.size := (by omega); have y7_1 : wr.heap.size + 1 ≤ w7.heap.size := (by omega); have HB7 := Lib.hid (HB6.out.trans (hb7.mono HB6.out.size)); have HM7 := Lib.hid (map_kept HM.out HB7.out)) | (at_mapUpdate; refine wpList_mapUpdate_own _ rfl _ _ _ 55 rfl 9 56 law_str Tryd.underlying55 (unitElem (H := Unit)) w.heap.size (0) _ rfl HM7.out (by unfold maxLen; omega) _ _ _ rfl rfl Hkey.out _ [] unitElem_mk ?_; intro w8 hown8 hgrow8; rw [← Hsn.out] at hown8; have HM8 := Lib.hid hown8; have HB8 := Lib.hid ((HB.out.trans (HB7.out.mono HB.out.size)).grown hgrow8 (Nat.le_trans HB.out.size HB7.out.size) (fun j hj => by cases hj; exact Nat.le_refl _)); clear hown8 hgrow8))
                go_roundw
                case rel => exact ⟨0 + 1, by omega, by go_num, Hs.out, HM8.out, HB8.out⟩
                case measure => simp [intOf]; omega
          · obtain ⟨y, hy⟩ := mem_at (l := l) (k := j) (by rw [Hln.out]; omega)
            obtain ⟨d0, d1⟩ := lab_cells (hc j y hy)
            have hyx : strB y.key x.key = false := by
              have h := ht
              rw [take_at hy, List.any_append] at h
              simpa using (Bool.or_eq_false_iff.1 h).2
            have Hy := Lib.hid hy
            have hjn : j < n := by omega
            have f1 := wrap_in (x := (j : Int)) (by omega) (by omega)
            have f2 := wrap_in (x := (j : Int) + 1 - 1) (by omega) (by omega)
            have f3 : (j : Int) + 1 - 1 = (j : Int) := by omega
            cases hl : lessB x.key y.key
            · have hyl : lessB y.key x.key = true := by
                cases h : lessB y.key x.key with
                | true => rfl
                | false =>
                  have e := less_tri h hl
                  unfold strB at hyx
                  rw [decide_eq_true e] at hyx
                  cases hyx
              have Hok := Lib.hid (show okL l (j + 1) = (wordB x.key && weB x.val) by rw [okL_succ Hx.out Hy.out, hyl, Bool.and_true])
              have hbl : Op.bytesLess x.key.toList y.key.toList = false := (less_eq _ _).symm.trans hl
              have Ht := Lib.hid ht
              clear ht hc hy hyx hl hyl
              cases k1 : wordB x.key
              · have Hs := Lib.hid (labs_bad (lt_at Hx.out) (by rw [Hok.out, k1]; rfl))
                have K1 := Lib.hid k1
                clear k1
                go_wp2_with (at_lookup; refine wpList_lookup_own_unit _ rfl _ _ 55 rfl 9 56 law_str Tryd.underlying55 (zero_unit _) w.heap.size (j + 1) _ rfl (HM.out.alloc _) _ _ rfl Hkey.out ?_; rw [Hhas.out, Ht.out])
                have hcH := held_cell
                refine region_rel (by kernel_rfl) (by kernel_rfl) ?_
                repeat
                  ((with_reducible refine relStep (fun K hK => ?_))
                   (have HK := Lib.hid hK)
                   clear hK
                   (first
                     | (apply relInl
                        · intro r n hf
                          have Hf := Lib.hid hf
                          clear hf
                          unfold relAt
                          go_simp
                          (first | (refine relUpon_val ?_ (Below.refl _ _); exact rfl) | exact rfl | (refine relUpon_enter ?_; fail))
                        (simp only [Act.put, List.setIfInBounds_toArray, List.set_cons_zero, List.set_cons_succ])
                        (with_reducible refine HK.out _ _ ?_)
                        clear HK K)
                     | (fail)))
                refine relNil ?_
                intro r5 n5 hx5
                clear hcH
                (try simp only [List.nil_append, List.cons_append, List.mem_cons, List.not_mem_nil, or_false, forall_eq_or_imp, forall_eq, false_implies, implies_true] at hx5)
                obtain ⟨w5, hb5⟩ := n5
                (try dsimp only)
                obtain ⟨hc5, hf5⟩ := bcell hb5
                have hz5 := hb5.size
                (try simp at hz5)
                have HB5 := Lib.hid (show Below wr.heap.size wr w5 by (repeat' (first | with_reducible exact Below.refl _ _ | with_reducible assumption | with_reducible refine Below.drew ?_ | with_reducible refine below_drewN' ?_ _ | with_reducible refine Below.alloc ?_ ?_ _ | with_reducible refine Below.setCell ?_ ?_ _ | with_reducible refine below_step (by assumption) ?_ ?_ | omega | (simp; done) | (simp; omega))))
                have z5_0 : wr.heap.size < w5.heap.size := (by omega); have y5_0 : wr.heap.size ≤ w5.heap.size := (by omega); have z5_1 : wr.heap.size + 1 < w5.heap.size := (by omega); have y5_1 : wr.heap.size + 1 ≤ w5.heap.size := (by omega)
                go_wp2_with (go_at_call 24; (with_reducible refine (word_any x.key _).mono ?_); rw [K1.out]; rintro e w6 ⟨rfl, hb6⟩; obtain ⟨hc6, hf6⟩ := bcell hb6; have hz6 := hb6.size; have z6_0 : wr.heap.size < w6.heap.size := (by omega); have y6_0 : wr.heap.size ≤ w6.heap.size := (by omega); have z6_1 : wr.heap.size + 1 < w6.heap.size := (by omega); have y6_1 : wr.heap.size + 1 ≤ w6.heap.size := (by omega); have HB6 := Lib.hid (HB5.out.trans (hb6.mono HB5.out.size)))
                go_ret
                exact ⟨by rw [Hs.out]; rfl, HB.out.trans (HB6.out.mono HB.out.size)⟩
              · cases k2 : weB x.val
                · have Hs := Lib.hid (labs_bad (lt_at Hx.out) (by rw [Hok.out, k1, k2]; rfl))
                  have K1 := Lib.hid k1
                  have K2 := Lib.hid k2
                  clear k1 k2
                  go_wp2_with (at_lookup; refine wpList_lookup_own_unit _ rfl _ _ 55 rfl 9 56 law_str Tryd.underlying55 (zero_unit _) w.heap.size (j + 1) _ rfl (HM.out.alloc _) _ _ rfl Hkey.out ?_; rw [Hhas.out, Ht.out])
                  have hcH := held_cell
                  refine region_rel (by kernel_rfl) (by kernel_rfl) ?_
                  repeat
                    ((with_reducible refine relStep (fun K hK => ?_))
                     (have HK := Lib.hid hK)
                     clear hK
                     (first
                       | (apply relInl
                          · intro r n hf
                            have Hf := Lib.hid hf
                            clear hf
                            unfold relAt
                            go_simp
                            (first | (refine relUpon_val ?_ (Below.refl _ _); exact rfl) | exact rfl | (refine relUpon_enter ?_; fail))
                          (simp only [Act.put, List.setIfInBounds_toArray, List.set_cons_zero, List.set_cons_succ])
                          (with_reducible refine HK.out _ _ ?_)
                          clear HK K)
                       | (fail)))
                  refine relNil ?_
                  intro r5 n5 hx5
                  clear hcH
                  (try simp only [List.nil_append, List.cons_append, List.mem_cons, List.not_mem_nil, or_false, forall_eq_or_imp, forall_eq, false_implies, implies_true] at hx5)
                  obtain ⟨w5, hb5⟩ := n5
                  (try dsimp only)
                  obtain ⟨hc5, hf5⟩ := bcell hb5
                  have hz5 := hb5.size
                  (try simp at hz5)
                  have HB5 := Lib.hid (show Below wr.heap.size wr w5 by (repeat' (first | with_reducible exact Below.refl _ _ | with_reducible assumption | with_reducible refine Below.drew ?_ | with_reducible refine below_drewN' ?_ _ | with_reducible refine Below.alloc ?_ ?_ _ | with_reducible refine Below.setCell ?_ ?_ _ | with_reducible refine below_step (by assumption) ?_ ?_ | omega | (simp; done) | (simp; omega))))
                  have z5_0 : wr.heap.size < w5.heap.size := (by omega); have y5_0 : wr.heap.size ≤ w5.heap.size := (by omega); have z5_1 : wr.heap.size + 1 < w5.heap.size := (by omega); have y5_1 : wr.heap.size + 1 ≤ w5.heap.size := (by omega)
                  go_wp2_with (first | (go_at_call 24; (with_reducible refine (word_any x.key _).mono ?_); rw [K1.out]; rintro e w6 ⟨rfl, hb6⟩; obtain ⟨hc6, hf6⟩ := bcell hb6; have hz6 := hb6.size; have z6_0 : wr.heap.size < w6.heap.size := (by omega); have y6_0 : wr.heap.size ≤ w6.heap.size := (by omega); have z6_1 : wr.heap.size + 1 < w6.heap.size := (by omega); have y6_1 : wr.heap.size + 1 ≤ w6.heap.size := (by omega); have HB6 := Lib.hid (HB5.out.trans (hb6.mono HB5.out.size))) | (go_at_call 49; (with_reducible refine (lwordorempty_any x.val _).mono ?_); rw [K2.out]; rintro e w7 ⟨rfl, hb7⟩; obtain ⟨hc7, hf7⟩ := bcell hb7; have hz7 := hb7.size; have z7_0 : wr.heap.size < w7.heap.size := (by omega); have y7_0 : wr.heap.size ≤ w7.heap.size := (by omega); have z7_1 : wr.heap.size + 1 < w7.heap.size := (by omega); have y7_1 : wr.heap.size + 1 ≤ w7.heap.size := (by omega); have HB7 := Lib.hid (HB6.out.trans (hb7.mono HB6.out.size)); have HM7 := Lib.hid (map_kept HM.out HB7.out)))
                  go_ret
                  exact ⟨by rw [Hs.out]; rfl, HB.out.trans (HB7.out.mono HB.out.size)⟩
                · have Hs := Lib.hid (show labsTo l (j + 1 + 1) = true by rw [labsTo_succ, HE.out, Hok.out, k1, k2]; rfl)
                  have Hsn := Lib.hid (seen_succ Hx.out)
                  have K1 := Lib.hid k1
                  have K2 := Lib.hid k2
                  clear k1 k2
                  go_wp2_with (at_lookup; refine wpList_lookup_own_unit _ rfl _ _ 55 rfl 9 56 law_str Tryd.underlying55 (zero_unit _) w.heap.size (j + 1) _ rfl (HM.out.alloc _) _ _ rfl Hkey.out ?_; rw [Hhas.out, Ht.out])
                  have hcH := held_cell
                  refine region_rel (by kernel_rfl) (by kernel_rfl) ?_
                  repeat
                    ((with_reducible refine relStep (fun K hK => ?_))
                     (have HK := Lib.hid hK)
                     clear hK
                     (first
                       | (apply relInl
                          · intro r n hf
                            have Hf := Lib.hid hf
                            clear hf
                            unfold relAt
                            go_simp
                            (first | (refine relUpon_val ?_ (Below.refl _ _); exact rfl) | exact rfl | (refine relUpon_enter ?_; fail))
                          (simp only [Act.put, List.setIfInBounds_toArray, List.set_cons_zero, List.set_cons_succ])
                          (with_reducible refine HK.out _ _ ?_)
                          clear HK K)
                       | (fail)))
                  refine relNil ?_
                  intro r5 n5 hx5
                  clear hcH
                  (try simp only [List.nil_append, List.cons_append, List.mem_cons, List.not_mem_nil, or_false, forall_eq_or_imp, forall_eq, false_implies, implies_true] at hx5)
                  obtain ⟨w5, hb5⟩ := n5
                  (try dsimp only)
                  obtain ⟨hc5, hf5⟩ := bcell hb5
                  have hz5 := hb5.size
                  (try simp at hz5)
                  have HB5 := Lib.hid (show Below wr.heap.size wr w5 by (repeat' (first | with_reducible exact Below.refl _ _ | with_reducible assumption | with_reducible refine Below.drew ?_ | with_reducible refine below_drewN' ?_ _ | with_reducible refine Below.alloc ?_ ?_ _ | with_reducible refine Below.setCell ?_ ?_ _ | with_reducible refine below_step (by assumption) ?_ ?_ | omega | (simp; done) | (simp; omega))))
                  have z5_0 : wr.heap.size < w5.heap.size := (by omega); have y5_0 : wr.heap.size ≤ w5.heap.size := (by omega); have z5_1 : wr.heap.size + 1 < w5.heap.size := (by omega); have y5_1 : wr.heap.size + 1 ≤ w5.heap.size := (by omega)
                  go_wp2_with (first | (go_at_call 24; (with_reducible refine (word_any x.key _).mono ?_); rw [K1.out]; rintro e w6 ⟨rfl, hb6⟩; obtain ⟨hc6, hf6⟩ := bcell hb6; have hz6 := hb6.size; have z6_0 : wr.heap.size < w6.heap.size := (by omega); have y6_0 : wr.heap.size ≤ w6.heap.size := (by omega); have z6_1 : wr.heap.size + 1 < w6.heap.size := (by omega); have y6_1 : wr.heap.size + 1 ≤ w6.heap.size := (by omega); have HB6 := Lib.hid (HB5.out.trans (hb6.mono HB5.out.size))) | (go_at_call 49; (with_reducible refine (lwordorempty_any x.val _).mono ?_); rw [K2.out]; rintro e w7 ⟨rfl, hb7⟩; obtain ⟨hc7, hf7⟩ := bcell hb7; have hz7 := hb7.size; have z7_0 : wr.heap.size < w7.heap.size := (by omega); have y7_0 : wr.heap.size ≤ w7.heap.size := (by omega); have z7_1 : wr.heap.size + 1 < w7.heap.size := (by omega); have y7_1 : wr.heap.size + 1 ≤ w7.heap.size := (by omega); have HB7 := Lib.hid (HB6.out.trans (hb7.mono HB6.out.size)); have HM7 := Lib.hid (map_kept HM.out HB7.out)) | (at_mapUpdate; refine wpList_mapUpdate_own _ rfl _ _ _ 55 rfl 9 56 law_str Tryd.underlying55 (unitElem (H := Unit)) w.heap.size (j + 1) _ rfl HM7.out (by unfold maxLen; omega) _ _ _ rfl rfl Hkey.out _ [] unitElem_mk ?_; intro w8 hown8 hgrow8; rw [← Hsn.out] at hown8; have HM8 := Lib.hid hown8; have HB8 := Lib.hid ((HB.out.trans (HB7.out.mono HB.out.size)).grown hgrow8 (Nat.le_trans HB.out.size HB7.out.size) (fun j hj => by cases hj; exact Nat.le_refl _)); clear hown8 hgrow8))
                  go_roundw
                  case rel => exact ⟨j + 1 + 1, by omega, by go_num, Hs.out, HM8.out, HB8.out⟩
                  case measure => simp [intOf]; omega
            · have Hbad := Lib.hid (labs_bad (lt_at Hx.out) (show okL l (j + 1) = false by rw [okL_succ Hx.out Hy.out, less_asymm hl, Bool.and_false]))
              have hbl : Op.bytesLess x.key.toList y.key.toList = true := (less_eq _ _).symm.trans hl
              have Ht := Lib.hid ht
              clear ht hc hy hyx hl
              go_wp2_with (at_lookup; refine wpList_lookup_own_unit _ rfl _ _ 55 rfl 9 56 law_str Tryd.underlying55 (zero_unit _) w.heap.size (j + 1) _ rfl (HM.out.alloc _) _ _ rfl Hkey.out ?_; rw [Hhas.out, Ht.out])
              have hcH := held_cell
              refine region_rel (by kernel_rfl) (by kernel_rfl) ?_
              repeat
                ((with_reducible refine relStep (fun K hK => ?_))
                 (have HK := Lib.hid hK)
                 clear hK
                 (first
                   | (apply relInl
                      · intro r n hf
                        have Hf := Lib.hid hf
                        clear hf
                        unfold relAt
                        go_simp
                        (first | (refine relUpon_val ?_ (Below.refl _ _); exact rfl) | exact rfl | (refine relUpon_enter ?_; fail))
                      (simp only [Act.put, List.setIfInBounds_toArray, List.set_cons_zero, List.set_cons_succ])
                      (with_reducible refine HK.out _ _ ?_)
                      clear HK K)
                   | (fail)))
              refine relNil ?_
              intro r5 n5 hx5
              clear hcH
              (try simp only [List.nil_append, List.cons_append, List.mem_cons, List.not_mem_nil, or_false, forall_eq_or_imp, forall_eq, false_implies, implies_true] at hx5)
              obtain ⟨w5, hb5⟩ := n5
              (try dsimp only)
              obtain ⟨hc5, hf5⟩ := bcell hb5
              have hz5 := hb5.size
              (try simp at hz5)
              go_wp2
              go_ret
              exact ⟨by rw [Hbad.out]; rfl, by (repeat' (first | with_reducible exact Below.refl _ _ | with_reducible assumption | with_reducible refine Below.drew ?_ | with_reducible refine below_drewN' ?_ _ | with_reducible refine Below.alloc ?_ ?_ _ | with_reducible refine Below.setCell ?_ ?_ _ | with_reducible refine below_step (by assumption) ?_ ?_ | omega | (simp; done) | (simp; omega)))⟩
        · have Hbad := Lib.hid (labs_bad (lt_at Hx.out) (twice_bad HE.out Hx.out ht))
          have Ht := Lib.hid ht
          clear ht
          go_wp2_with (at_lookup; refine wpList_lookup_own_unit _ rfl _ _ 55 rfl 9 56 law_str Tryd.underlying55 (zero_unit _) w.heap.size (k) _ rfl (HM.out.alloc _) _ _ rfl Hkey.out ?_; rw [Hhas.out, Ht.out])
          have hcH := held_cell
          refine region_rel (by kernel_rfl) (by kernel_rfl) ?_
          repeat
            ((with_reducible refine relStep (fun K hK => ?_))
             (have HK := Lib.hid hK)
             clear hK
             (first
               | (apply relInl
                  · intro r n hf
                    have Hf := Lib.hid hf
                    clear hf
                    unfold relAt
                    go_simp
                    (first | (refine relUpon_val ?_ (Below.refl _ _); exact rfl) | exact rfl | (refine relUpon_enter ?_; fail))
                  (simp only [Act.put, List.setIfInBounds_toArray, List.set_cons_zero, List.set_cons_succ])
                  (with_reducible refine HK.out _ _ ?_)
                  clear HK K)
               | (fail)))
          refine relNil ?_
          intro r5 n5 hx5
          clear hcH
          (try simp only [List.nil_append, List.cons_append, List.mem_cons, List.not_mem_nil, or_false, forall_eq_or_imp, forall_eq, false_implies, implies_true] at hx5)
          obtain ⟨w5, hb5⟩ := n5
          (try dsimp only)
          obtain ⟨hc5, hf5⟩ := bcell hb5
          have hz5 := hb5.size
          (try simp at hz5)
          go_wp2
          go_ret
          exact ⟨by rw [Hbad.out]; rfl, by (repeat' (first | with_reducible exact Below.refl _ _ | with_reducible assumption | with_reducible refine Below.drew ?_ | with_reducible refine below_drewN' ?_ _ | with_reducible refine Below.alloc ?_ ?_ _ | with_reducible refine Below.setCell ?_ ?_ _ | with_reducible refine below_step (by assumption) ?_ ?_ | omega | (simp; done) | (simp; omega)))⟩
      · obtain rfl : k = n := by omega
        have Hend := Lib.hid (labs_end Hln.out (by omega) HE.out)
        go_wp2
        go_ret
        exact ⟨by rw [Hend.out]; rfl, by (repeat' (first | with_reducible exact Below.refl _ _ | with_reducible assumption | with_reducible refine Below.drew ?_ | with_reducible refine below_drewN' ?_ _ | with_reducible refine Below.alloc ?_ ?_ _ | with_reducible refine Below.setCell ?_ ?_ _ | with_reducible refine below_step (by assumption) ?_ ?_ | omega | (simp; done) | (simp; omega)))⟩
set_option maxRecDepth 100000 in
theorem parts_any (a0 a1 a2 a3 a4 : Int) (w : World) :
    Calls Tryd.prog 33 #[.agg #[.int .i64 a0, .int .i64 a1, .int .i64 a2, .int .i64 a3, .int .i64 a4]] w fun e w' => e = .returned (.agg #[.int .i64 a0, .int .i64 a1, .int .i64 a2, .int .i64 a3, .int .i64 a4]) ∧ Below w.heap.size w w' := by
  go_enter Tryd.func33, Tryd.ntmps33
  go_wp2
  refine bodyPost_ret (v := .agg #[.int .i64 a0, .int .i64 a1, .int .i64 a2, .int .i64 a3, .int .i64 a4]) (by simp [results, Tryd.results33, go_sem]) rfl ⟨rfl, ?_⟩
  (repeat' (first | with_reducible exact Below.refl _ _ | with_reducible assumption | with_reducible refine Below.drew ?_ | with_reducible refine below_drewN' ?_ _ | with_reducible refine Below.alloc ?_ ?_ _ | with_reducible refine Below.setCell ?_ ?_ _ | with_reducible refine below_step (by assumption) ?_ ?_ | omega | (simp; done) | (simp; omega)))
set_option maxHeartbeats 1000000 in
theorem resright_any (a0 a1 a2 a3 a4 : Int) (w : World) :
    Calls Tryd.prog 26 #[.agg #[.int .i64 a0, .int .i64 a1, .int .i64 a2, .int .i64 a3, .int .i64 a4]] w fun e w' => e = .returned (.bool (rtB a0 a1 a2 a3 a4)) ∧ Below w.heap.size w w' := by
  have i0 : ∀ w : World, (Instr.index 62 (.agg #[.int .i64 a0, .int .i64 a1, .int .i64 a2, .int .i64 a3, .int .i64 a4]) (.int .i64 0)).run Tryd.prog w = .ok (.int .i64 a0) w := fun _ => by kernel_rfl
  have i1 : ∀ w : World, (Instr.index 62 (.agg #[.int .i64 a0, .int .i64 a1, .int .i64 a2, .int .i64 a3, .int .i64 a4]) (.int .i64 1)).run Tryd.prog w = .ok (.int .i64 a1) w := fun _ => by kernel_rfl
  have i2 : ∀ w : World, (Instr.index 62 (.agg #[.int .i64 a0, .int .i64 a1, .int .i64 a2, .int .i64 a3, .int .i64 a4]) (.int .i64 2)).run Tryd.prog w = .ok (.int .i64 a2) w := fun _ => by kernel_rfl
  have i3 : ∀ w : World, (Instr.index 62 (.agg #[.int .i64 a0, .int .i64 a1, .int .i64 a2, .int .i64 a3, .int .i64 a4]) (.int .i64 3)).run Tryd.prog w = .ok (.int .i64 a3) w := fun _ => by kernel_rfl
  have i4 : ∀ w : World, (Instr.index 62 (.agg #[.int .i64 a0, .int .i64 a1, .int .i64 a2, .int .i64 a3, .int .i64 a4]) (.int .i64 4)).run Tryd.prog w = .ok (.int .i64 a4) w := fun _ => by kernel_rfl
  go_enter Tryd.func26, Tryd.ntmps26
  go_wp2_with (go_at_call 33; refine (parts_any _ _ _ _ _ _).mono ?_; rintro e w1 ⟨rfl, hb1⟩; obtain ⟨hc1, hf1⟩ := bcell hb1; have hz1 := hb1.size; (try simp at hz1); (try have hza : w.heap.size < w1.heap.size := by omega); (try have hzb : w.heap.size + 1 < w1.heap.size := by omega); (try have hzc : w.heap.size + 1 + 1 < w1.heap.size := by omega); (try have hzd : w.heap.size + 1 + 1 + 1 < w1.heap.size := by omega))
  refine wp_loop_rounds 6 ?_
  iterate 6
    all_goals (try rw [rounds_succ])
    all_goals (try go_wp2)
  all_goals (go_ret; exact ⟨by simp [rtB, okB]; omega, by (repeat' (first | with_reducible exact Below.refl _ _ | with_reducible assumption | with_reducible refine Below.drew ?_ | with_reducible refine below_drewN' ?_ _ | with_reducible refine Below.alloc ?_ ?_ _ | with_reducible refine Below.setCell ?_ ?_ _ | with_reducible refine below_step (by assumption) ?_ ?_ | omega | (simp; done) | (simp; omega)))⟩)

set_option maxRecDepth 100000 in
theorem swordorempty_any (s : ByteArray) (w : World) :
    Calls Tryd.prog 25 #[.string s] w fun e w' => e = .returned (.bool (weB s)) ∧ Below w.heap.size w w' := by
  unfold weB
  by_cases h : s = emp
  · obtain ⟨h1, h2, h3, h4⟩ := emp_lits h
    rw [decide_eq_true h]
    clear h
    go_enter Tryd.func25, Tryd.ntmps25
    go_wp2
    go_ret
    exact ⟨rfl, by (repeat' (first | with_reducible exact Below.refl _ _ | with_reducible assumption | with_reducible refine Below.drew ?_ | with_reducible refine below_drewN' ?_ _ | with_reducible refine Below.alloc ?_ ?_ _ | with_reducible refine Below.setCell ?_ ?_ _ | with_reducible refine below_step (by assumption) ?_ ?_ | omega | (simp; done) | (simp; omega)))⟩
  · obtain ⟨h1, h2, h3, h4⟩ := emp_litn h
    rw [decide_eq_false h]
    clear h
    go_enter Tryd.func25, Tryd.ntmps25
    go_wp2_with (go_at_call 24; refine (word_any _ _).mono ?_; rintro e w1 ⟨rfl, hb1⟩; obtain ⟨hc1, hf1⟩ := bcell hb1; have hz1 := hb1.size; (try simp at hz1); (try have hza : w.heap.size < w1.heap.size := by omega); (try have hzb : w.heap.size + 1 < w1.heap.size := by omega); (try have hzc : w.heap.size + 1 + 1 < w1.heap.size := by omega); (try have hzd : w.heap.size + 1 + 1 + 1 < w1.heap.size := by omega))
    go_ret
    exact ⟨rfl, by (repeat' (first | with_reducible exact Below.refl _ _ | with_reducible assumption | with_reducible refine Below.drew ?_ | with_reducible refine below_drewN' ?_ _ | with_reducible refine Below.alloc ?_ ?_ _ | with_reducible refine Below.setCell ?_ ?_ _ | with_reducible refine below_step (by assumption) ?_ ?_ | omega | (simp; done) | (simp; omega)))⟩

def inB (n lo hi : Int) : Bool := decide (lo ≤ n ∧ n ≤ hi)
set_option maxRecDepth 100000 in
theorem within_any (n lo hi : Int) (w : World) :
    Calls Tryd.prog 32 #[.int .i64 n, .int .i64 lo, .int .i64 hi] w fun e w' => e = .returned (.bool (inB n lo hi)) ∧ Below w.heap.size w w' := by
  unfold inB
  by_cases h1 : lo ≤ n
  · by_cases h2 : n ≤ hi
    · rw [decide_eq_true ⟨h1, h2⟩]
      go_enter Tryd.func32, Tryd.ntmps32
      go_wp2
      go_ret
      exact ⟨by first | rfl | (simp; omega), by (repeat' (first | with_reducible exact Below.refl _ _ | with_reducible assumption | with_reducible refine Below.drew ?_ | with_reducible refine below_drewN' ?_ _ | with_reducible refine Below.alloc ?_ ?_ _ | with_reducible refine Below.setCell ?_ ?_ _ | with_reducible refine below_step (by assumption) ?_ ?_ | omega | (simp; done) | (simp; omega)))⟩
    · rw [decide_eq_false (fun h => h2 h.2)]
      go_enter Tryd.func32, Tryd.ntmps32
      go_wp2
      go_ret
      exact ⟨by first | rfl | (simp; omega), by (repeat' (first | with_reducible exact Below.refl _ _ | with_reducible assumption | with_reducible refine Below.drew ?_ | with_reducible refine below_drewN' ?_ _ | with_reducible refine Below.alloc ?_ ?_ _ | with_reducible refine Below.setCell ?_ ?_ _ | with_reducible refine below_step (by assumption) ?_ ?_ | omega | (simp; done) | (simp; omega)))⟩
  · have h1' : n < lo := by omega
    rw [decide_eq_false (fun h => h1 h.1)]
    go_enter Tryd.func32, Tryd.ntmps32
    go_wp2
    go_ret
    exact ⟨by first | rfl | (simp; omega), by (repeat' (first | with_reducible exact Below.refl _ _ | with_reducible assumption | with_reducible refine Below.drew ?_ | with_reducible refine below_drewN' ?_ _ | with_reducible refine Below.alloc ?_ ?_ _ | with_reducible refine Below.setCell ?_ ?_ _ | with_reducible refine below_step (by assumption) ?_ ?_ | omega | (simp; done) | (simp; omega)))⟩

def rightG (g : Gp) : Bool := wordB g.nm && inB g.mx 1 200 && inB g.mn 0 g.mx && inB g.pr 0 1125899906842624 && inB g.rk 0 1000 && rightM g.like && decide (g.like.nm = emp) && decide (g.like.gp = g.nm) && g.like.rd

end Go.Proofs.YtccplljbljpjpaaDoor
