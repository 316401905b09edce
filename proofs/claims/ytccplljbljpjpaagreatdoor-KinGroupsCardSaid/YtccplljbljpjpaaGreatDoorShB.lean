/-
  A pod as text, the document's way: its pieces.
-/
import Derived.Test.YtccplljbljpjpaaGreatDoorShA
import Derived.Test.YtccplljbljpjpaaGreatDoorLabNC
import Derived.Deep.Cut
namespace Go.Proofs.YtccplljbljpjpaaGreatDoor
open Go.RowKit
set_option linter.unusedVariables false
set_option linter.unusedSimpArgs false

/-- One text behind another. -/
theorem cat_step (a b : ByteArray) (n m : Nat) (ha : a.size ≤ n) (hb : b.size ≤ m) (h : n + m ≤ 100000000) : ∃ c, c = a ++ b ∧ c.size ≤ n + m ∧ ∀ V : World, (Op.stringOp .add a b).run Tryz.prog V = .ok (.string c) V :=
  ⟨a ++ b, rfl, by rw [ByteArray.size_append]; omega, fun V => run_string_add_sum V a b (by omega)⟩
def atB (s : ByteArray) : ByteArray := if s = emp then ⟨#[34, 34]⟩ else s
theorem atB_size {s : ByteArray} (h : s.size ≤ 300) : (atB s).size ≤ 300 := by
  unfold atB
  split
  · decide
  · exact h
set_option maxRecDepth 100000 in
set_option maxHeartbeats 4000000 in
theorem atom_any (s : ByteArray) (w : World) :
    Calls Tryz.prog 61 #[.string s] w fun e w' => e = .returned (.string (atB s)) ∧ Below w.heap.size w w' := by
  unfold atB
  by_cases h : s = emp
  · have q := (emp_yes h).2.2
    rw [if_pos h]
    clear h
    go_enter Tryz.func61, Tryz.ntmps61
    go_wp2
    go_ret
    exact ⟨rfl, by (repeat' (first | with_reducible exact Below.refl _ _ | with_reducible assumption | with_reducible refine Below.drew ?_ | with_reducible refine below_drewN' ?_ _ | with_reducible refine Below.alloc ?_ ?_ _ | with_reducible refine Below.setCell ?_ ?_ _ | with_reducible refine below_step (by assumption) ?_ ?_ | omega | (simp; done) | (simp; omega)))⟩
  · have q := (emp_no h).2.2
    rw [if_neg h]
    clear h
    go_enter Tryz.func61, Tryz.ntmps61
    go_wp2
    go_ret
    exact ⟨rfl, by (repeat' (first | with_reducible exact Below.refl _ _ | with_reducible assumption | with_reducible refine Below.drew ?_ | with_reducible refine below_drewN' ?_ _ | with_reducible refine Below.alloc ?_ ?_ _ | with_reducible refine Below.setCell ?_ ?_ _ | with_reducible refine below_step (by assumption) ?_ ?_ | omega | (simp; done) | (simp; omega)))⟩
def flB (nm : ByteArray) (b : Bool) : ByteArray := if b = true then ⟨#[32]⟩ ++ nm else emp
set_option maxRecDepth 100000 in
set_option maxHeartbeats 4000000 in
theorem flag_any (nm : ByteArray) (b : Bool) (w : World) (h : nm.size ≤ 100) :
    Calls Tryz.prog 64 #[.string nm, .bool b] w fun e w' => e = .returned (.string (flB nm b)) ∧ Below w.heap.size w w' := by
  cases b with
  | true =>
    obtain ⟨s1, es1, zs1, rs1⟩ := cat_step ⟨#[32]⟩ nm 1 100 (by decide) h (by omega)
    have HE := Lib.hid (show flB nm true = s1 from es1.symm)
    clear es1
    rw [HE.out]
    go_enter Tryz.func64, Tryz.ntmps64
    go_wp2
    go_ret
    exact ⟨rfl, by (repeat' (first | with_reducible exact Below.refl _ _ | with_reducible assumption | with_reducible refine Below.drew ?_ | with_reducible refine below_drewN' ?_ _ | with_reducible refine Below.alloc ?_ ?_ _ | with_reducible refine Below.setCell ?_ ?_ _ | with_reducible refine below_step (by assumption) ?_ ?_ | omega | (simp; done) | (simp; omega)))⟩
  | false =>
    show Calls Tryz.prog 64 #[.string nm, .bool false] w fun e w' => e = .returned (.string emp) ∧ _
    go_enter Tryz.func64, Tryz.ntmps64
    go_wp2
    go_ret
    exact ⟨rfl, by (repeat' (first | with_reducible exact Below.refl _ _ | with_reducible assumption | with_reducible refine Below.drew ?_ | with_reducible refine below_drewN' ?_ _ | with_reducible refine Below.alloc ?_ ?_ _ | with_reducible refine Below.setCell ?_ ?_ _ | with_reducible refine below_step (by assumption) ?_ ?_ | omega | (simp; done) | (simp; omega)))⟩
theorem flB_size {nm : ByteArray} {b : Bool} (h : nm.size ≤ 100) : (flB nm b).size ≤ 200 := by
  unfold flB
  split
  · rw [ByteArray.size_append]
    have : (⟨#[32]⟩ : ByteArray).size ≤ 1 := by decide
    omega
  · decide
def nuB (nm : ByteArray) (n : Int) : ByteArray := if n = 0 then emp else (((⟨#[32, 40]⟩ ++ nm) ++ ⟨#[32]⟩) ++ itoaB n) ++ ⟨#[41]⟩
theorem nuB_size {nm : ByteArray} {n : Int} (h : nm.size ≤ 100) (h0 : 0 ≤ n) (h9 : n ≤ 9223372036854775807) : (nuB nm n).size ≤ 200 := by
  unfold nuB
  split
  · decide
  · rw [ByteArray.size_append, ByteArray.size_append, ByteArray.size_append, ByteArray.size_append]
    have := itoaB_size n (by omega) h9
    have : (⟨#[32]⟩ : ByteArray).size ≤ 1 := by decide
    have : (⟨#[41]⟩ : ByteArray).size ≤ 1 := by decide
    have : (⟨#[32, 40]⟩ : ByteArray).size ≤ 2 := by decide
    omega
set_option maxRecDepth 100000 in
set_option maxHeartbeats 4000000 in
theorem number7_any (nm : ByteArray) (n : Int) (w : World) (h : nm.size ≤ 100) (h0 : 0 ≤ n) (h9 : n ≤ 9223372036854775807) :
    Calls Tryz.prog 63 #[.string nm, .int .i64 n] w fun e w' => e = .returned (.string (nuB nm n)) ∧ Below w.heap.size w w' := by
  by_cases hn : n = 0
  · subst hn
    show Calls Tryz.prog 63 #[.string nm, .int .i64 0] w fun e w' => e = .returned (.string emp) ∧ _
    go_enter Tryz.func63, Tryz.ntmps63
    go_wp2
    go_ret
    exact ⟨rfl, by (repeat' (first | with_reducible exact Below.refl _ _ | with_reducible assumption | with_reducible refine Below.drew ?_ | with_reducible refine below_drewN' ?_ _ | with_reducible refine Below.alloc ?_ ?_ _ | with_reducible refine Below.setCell ?_ ?_ _ | with_reducible refine below_step (by assumption) ?_ ?_ | omega | (simp; done) | (simp; omega)))⟩
  · have q0 : (n == 0) = false := by simpa using hn
    have hi := itoaB_size n (by omega) h9
    have hv : nuB nm n = (((⟨#[32, 40]⟩ ++ nm) ++ ⟨#[32]⟩) ++ itoaB n) ++ ⟨#[41]⟩ := if_neg hn
    have HD := Lib.hid (fun V => digits_itoa n h0 h9 V)
    obtain ⟨t, ht⟩ : ∃ t, itoaB n = t := ⟨_, rfl⟩
    rw [ht] at hv hi HD
    obtain ⟨s1, es1, zs1, rs1⟩ := cat_step ⟨#[32, 40]⟩ nm 2 100 (by decide) h (by omega)
    obtain ⟨s2, es2, zs2, rs2⟩ := cat_step s1 ⟨#[32]⟩ (2 + 100) 1 zs1 (by decide) (by omega)
    obtain ⟨s3, es3, zs3, rs3⟩ := cat_step s2 t (2 + 100 + 1) 21 zs2 hi (by omega)
    obtain ⟨s4, es4, zs4, rs4⟩ := cat_step s3 ⟨#[41]⟩ (2 + 100 + 1 + 21) 1 zs3 (by decide) (by omega)
    rw [← es1, ← es2, ← es3, ← es4] at hv
    rw [hv]
    clear hv es1 es2 es3 es4 ht hn
    go_enter Tryz.func63, Tryz.ntmps63
    go_wp2_with (go_at_call 58; (with_reducible refine (HD.out _).mono ?_); rintro e w9 ⟨rfl, hb⟩; have hz9 := hb.size)
    go_ret
    exact ⟨rfl, by (repeat' (first | with_reducible exact Below.refl _ _ | with_reducible assumption | with_reducible refine Below.drew ?_ | with_reducible refine below_drewN' ?_ _ | with_reducible refine Below.alloc ?_ ?_ _ | with_reducible refine Below.setCell ?_ ?_ _ | with_reducible refine below_step (by assumption) ?_ ?_ | omega | (simp; done) | (simp; omega)))⟩
/-- Labels as fields. -/
def prS (nm : ByteArray) (s : ByteArray) (x : Lab) : ByteArray := ((((((s ++ ⟨#[32, 40]⟩) ++ nm) ++ ⟨#[32]⟩) ++ x.key) ++ ⟨#[32]⟩) ++ atB x.val) ++ ⟨#[41]⟩
def prB (nm : ByteArray) (l : List Lab) : ByteArray := l.foldl (prS nm) emp
theorem fold_next {α β : Type} {l : List α} {k : Nat} {x : α} (h : l[k]? = some x) (f : β → α → β) (b : β) : (l.take (k + 1)).foldl f b = f ((l.take k).foldl f b) x := by
  rw [List.take_add_one, h, List.foldl_append]
  rfl
set_option maxRecDepth 100000 in
set_option maxHeartbeats 4000000 in
theorem pairs_any (nm : ByteArray) (a : Option Addr) (ka : Nat) (l : List Lab) (w : World) (hF : LabL w a l) (hl : l.length ≤ 40) (h : nm.size ≤ 100) (hs : ∀ x ∈ l, x.key.size ≤ 300 ∧ x.val.size ≤ 300) :
    Calls Tryz.prog 59 #[.string nm, .slice a l.length ka] w fun e w' => (e = .returned (.string (prB nm l)) ∧ (prB nm l).size ≤ 40000) ∧ Below w.heap.size w w' := by
  have HF := Lib.hid hF
  have HS := Lib.hid hs
  obtain ⟨n, hn⟩ : ∃ n, l.length = n := ⟨_, rfl⟩
  have Hn := Lib.hid hn
  rw [hn] at hl ⊢
  clear hF hs hn
  go_enter Tryz.func59, Tryz.ntmps59
  go_wp2
  go_loopw [5, 6] (fun vs vi wr => ∃ (k : Nat) (s : ByteArray), k ≤ n ∧ vi = .int .i64 k ∧ vs = .string s ∧ s = (l.take k).foldl (prS nm) emp ∧ s.size ≤ k * 1000 ∧ Below w.heap.size w wr) (fun _ vi _ => n - (intOf vi).toNat)
  case atStart => exact ⟨0, emp, Nat.zero_le _, rfl, rfl, rfl, by decide, by (repeat' (first | with_reducible exact Below.refl _ _ | with_reducible assumption | with_reducible refine Below.drew ?_ | with_reducible refine below_drewN' ?_ _ | with_reducible refine Below.alloc ?_ ?_ _ | with_reducible refine Below.setCell ?_ ?_ _ | with_reducible refine below_step (by assumption) ?_ ?_ | omega | (simp; done) | (simp; omega)))⟩
  case round =>
    obtain ⟨k, s, hk, rfl, rfl, hE, hz, hB⟩ := hrel
    have HB := Lib.hid hB
    by_cases hlt : k < n
    · obtain ⟨x, hx⟩ := mem_at (l := l) (k := k) (by rw [Hn.out]; exact hlt)
      obtain ⟨hx1, hx2⟩ := HS.out x (List.mem_of_getElem? hx)
      obtain ⟨b, o, rfl, hb, hc⟩ := (HF.out.mono hB) (by rw [Hn.out]; omega)
      obtain ⟨c0, c1⟩ := lab_cells (hc k x hx)
      have hat := atB_size hx2
      have HA := Lib.hid (fun V => atom_any x.val V)
      have hnx := fold_next hx (prS nm) emp
      rw [← hE] at hnx
      unfold prS at hnx
      obtain ⟨t, ht⟩ : ∃ t, atB x.val = t := ⟨_, rfl⟩
      rw [ht] at hnx hat HA
      obtain ⟨s1, es1, zs1, rs1⟩ := cat_step s ⟨#[32, 40]⟩ (k * 1000) 2 hz (by decide) (by omega)
      obtain ⟨s2, es2, zs2, rs2⟩ := cat_step s1 nm (k * 1000 + 2) 100 zs1 h (by omega)
      obtain ⟨s3, es3, zs3, rs3⟩ := cat_step s2 ⟨#[32]⟩ (k * 1000 + 2 + 100) 1 zs2 (by decide) (by omega)
      obtain ⟨s4, es4, zs4, rs4⟩ := cat_step s3 x.key (k * 1000 + 2 + 100 + 1) 300 zs3 hx1 (by omega)
      obtain ⟨s5, es5, zs5, rs5⟩ := cat_step s4 ⟨#[32]⟩ (k * 1000 + 2 + 100 + 1 + 300) 1 zs4 (by decide) (by omega)
      obtain ⟨s6, es6, zs6, rs6⟩ := cat_step s5 t (k * 1000 + 2 + 100 + 1 + 300 + 1) 300 zs5 hat (by omega)
      obtain ⟨s7, es7, zs7, rs7⟩ := cat_step s6 ⟨#[41]⟩ (k * 1000 + 2 + 100 + 1 + 300 + 1 + 300) 1 zs6 (by decide) (by omega)
      rw [← es1, ← es2, ← es3, ← es4, ← es5, ← es6, ← es7] at hnx
      have HNx := Lib.hid hnx
      clear hE hc hx hnx es1 es2 es3 es4 es5 es6 es7 ht hx1 hx2 hB
      go_upto_region 5 with (fail)
      have hcH := held_cell
      refine region_rel (by kernel_rfl) (by kernel_rfl) ?_
      repeat
        ((with_reducible refine relStep (fun K hK => ?_))
         (have HK := Lib.hid hK)
         clear hK
         (apply relInl
          · intro r n hf
            have Hf := Lib.hid hf
            clear hf
            (first
              | (fail)
              | (unfold relAt
                 go_simp
                 (first | (refine relUpon_val ?_ (Below.refl _ _); exact rfl) | exact rfl | (refine relUpon_enter ?_; (go_at_call 61; (with_reducible refine (HA.out _).mono ?_); rintro e w9 ⟨rfl, hb⟩; exact ⟨⟨_, rfl, rfl⟩, hb⟩)))))
          (simp only [Act.put, List.setIfInBounds_toArray, List.set_cons_zero, List.set_cons_succ])
          (with_reducible refine HK.out _ _ ?_)
          clear HK K))
      refine relNil ?_
      intro r9 n9 hx9
      clear hcH
      (try simp only [List.nil_append, List.cons_append, List.mem_cons, List.not_mem_nil, or_false, forall_eq_or_imp, forall_eq, false_implies, implies_true] at hx9)
      obtain ⟨w9, hb9⟩ := n9
      (try dsimp only)
      obtain ⟨hc9, hf9⟩ := bcell hb9
      have hz9 := hb9.size
      (try simp at hz9)
      have HB9 := Lib.hid (HB.out.trans (hb9.mono HB.out.size))
      clear hb9 hc9 hf9 hz9 c0 c1
      go_wp2
      go_roundw
      case rel => exact ⟨k + 1, s7, by omega, by go_num, rfl, HNx.out.symm, by omega, HB9.out⟩
      case measure => simp [intOf]; omega
    · obtain rfl : k = n := by omega
      have HE := Lib.hid (show prB nm l = s by rw [hE, List.take_of_length_le (by rw [Hn.out]; exact Nat.le_refl _)]; rfl)
      clear hE hB
      go_wp2
      go_ret
      exact ⟨⟨by rw [HE.out]; first | done | rfl, by rw [HE.out]; omega⟩, HB.out⟩
end Go.Proofs.YtccplljbljpjpaaGreatDoor
