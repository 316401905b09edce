/-
  The contract of similar.Alike.
-/
import Derived.Test.YtlgbbfaeclaghaaSim9
import Derived.Test.YtlgbbfaeclaghaaRel
namespace Go.Proofs.Ytlgbbfaeclaghaa
open Go.RowKit
set_option linter.unusedVariables false

/-- A group's cells. -/
structure Grp where
  nm : ByteArray
  mn : Int
  mx : Int
  mm : ByteArray
  mg : ByteArray
  r0 : Int
  r1 : Int
  r2 : Int
  r3 : Int
  r4 : Int
  la : Option Addr
  ll : Nat
  lk : Nat
  ta : Option Addr
  tl : Nat
  tk : Nat
  rd : Bool
  pr : Int
  rk : Int

def Grp.l (g : Grp) : List Value := [.string g.nm, .int .i64 g.mn, .int .i64 g.mx, .string g.mm, .string g.mg, .int .i64 g.r0, .int .i64 g.r1, .int .i64 g.r2, .int .i64 g.r3, .int .i64 g.r4, .slice g.la g.ll g.lk, .slice g.ta g.tl g.tk, .bool g.rd, .int .i64 g.pr, .int .i64 g.rk]

/-- What its labels and taints are. -/
structure GrpAt (w : World) (g : Grp) (L : Nat → ByteArray × ByteArray) (T : Nat → ByteArray × ByteArray × Int) : Prop where
  labs : LabsAt w g.la g.ll L
  tnts : TaintsAt w g.ta g.tl T
  ln : g.ll ≤ 1000000
  tn : g.tl ≤ 1000000

theorem LabsAt.mono {w w' : World} {a : Option Addr} {n : Nat} {D : Nat → ByteArray × ByteArray} (h : LabsAt w a n D) (hb : Below w.heap.size w w') : LabsAt w' a n D := fun h0 => by
  obtain ⟨b, off, e, hlt, hc⟩ := h h0
  refine ⟨b, off, e, Nat.lt_of_lt_of_le hlt hb.size, fun i hi => ?_⟩
  rw [hb.cell (p := ⟨b, _, none⟩) hlt, hb.cell (p := ⟨b, _, none⟩) hlt]
  exact hc i hi
theorem TaintsAt.mono {w w' : World} {a : Option Addr} {n : Nat} {D : Nat → ByteArray × ByteArray × Int} (h : TaintsAt w a n D) (hb : Below w.heap.size w w') : TaintsAt w' a n D := fun h0 => by
  obtain ⟨b, off, e, hlt, hc⟩ := h h0
  refine ⟨b, off, e, Nat.lt_of_lt_of_le hlt hb.size, fun i hi => ?_⟩
  rw [hb.cell (p := ⟨b, _, none⟩) hlt, hb.cell (p := ⟨b, _, none⟩) hlt, hb.cell (p := ⟨b, _, none⟩) hlt]
  exact hc i hi
theorem GrpAt.mono {w w' : World} {g : Grp} {L : Nat → ByteArray × ByteArray} {T : Nat → ByteArray × ByteArray × Int} (h : GrpAt w g L T) (hb : Below w.heap.size w w') : GrpAt w' g L T :=
  ⟨h.labs.mono hb, h.tnts.mono hb, h.ln, h.tn⟩

/-- A value that is a slice of these labels. -/
def LabsIs (l : List (ByteArray × ByteArray)) (v : Value) (w : World) : Prop := ∃ a k, v = .slice a l.length k ∧ LabsAt w a l.length (fun i => l.getD i default)
theorem LabsIs.stays (l : List (ByteArray × ByteArray)) : Stays (LabsIs l) := fun v w w' hb h => by
  obtain ⟨a, k, e, h⟩ := h
  exact ⟨a, k, e, h.mono hb⟩
theorem LabsIs.of_own {l : List (ByteArray × ByteArray)} {w : World} {base : Nat} {v : Value} (h : w.ownsRow base 44 2 v l.length (l.flatMap lcs)) : LabsIs l v w := by
  obtain ⟨sp, cap, rfl, hc⟩ := own_rows lcs_len h (by decide)
  refine ⟨sp, cap, rfl, fun h0 => ?_⟩
  obtain ⟨b, rfl, _, hlt, hcs⟩ := hc h0
  refine ⟨b, 0, rfl, hlt, fun i hi => ?_⟩
  have hx : l[i]? = some (l.getD i default) := by simp [List.getD_eq_getElem?_getD, hi]
  exact ⟨hcs i _ hx 0 (by decide), hcs i _ hx 1 (by decide)⟩

def zone : ByteArray := ⟨#[122, 111, 110, 101]⟩
def eqT (n m : Nat) (T U : Nat → ByteArray × ByteArray × Int) : Bool := decide (n = m ∧ ∀ i, i < n → T i = U i)
def eqL (l m : List (ByteArray × ByteArray)) : Bool := decide (l.length = m.length ∧ ∀ i, i < l.length → l.getD i default = m.getD i default)
def resB (g h : Grp) : Bool := decide (g.r0 = h.r0 ∧ g.r1 = h.r1 ∧ g.r2 = h.r2 ∧ g.r3 = h.r3 ∧ g.r4 = h.r4)
def alikeB (g h : Grp) (D F : Nat → ByteArray × ByteArray) (T U : Nat → ByteArray × ByteArray × Int) : Bool :=
  resB g h && (eqT g.tl h.tl T U && eqL (dropL D zone g.ll) (dropL F zone h.ll))

theorem eql_res (g h : Grp) (w : World) : (binOp .eql 34 (.agg #[.int .i64 g.r0, .int .i64 g.r1, .int .i64 g.r2, .int .i64 g.r3, .int .i64 g.r4]) (.agg #[.int .i64 h.r0, .int .i64 h.r1, .int .i64 h.r2, .int .i64 h.r3, .int .i64 h.r4])).run Try.prog w = .ok (.bool (resB g h)) w := by
  have hus := Try.underlying3
  have has := Try.isAgg3
  have hzs := Try.sizeOf3
  have hS : Try.prog.underlying 34 = some (.struct (Try.prog.fieldsOf 34)) := by kernel_rfl
  have hp : Try.prog.stoodInHeld 34 = false := by kernel_rfl
  rw [run_eql_struct, show (10000 : Nat) = 9999 + 1 from rfl, run_equalIn_agg w 9999 34 _ _ hS hp]
  simp only [Program.fieldsOf, Try.underlying34]
  go_simp
  unfold resB
  by_cases h0 : g.r0 = h.r0 <;> by_cases h1 : g.r1 = h.r1 <;> by_cases h2 : g.r2 = h.r2 <;> by_cases h3 : g.r3 = h.r3 <;> by_cases h4 : g.r4 = h.r4 <;> simp [h0, h1, h2, h3, h4]
theorem guard_res (op : BinOp) (x y : Operand) (xs ys : Array Value) (w : World) : (eqGuard op 34 x y (.agg xs) (.agg ys)).run Try.prog w = .ok () w := run_eqGuard_agg w op _ x y xs ys (by kernel_rfl)

set_option maxRecDepth 100000 in
set_option maxHeartbeats 4000000 in
theorem alike_any (g h : Grp) (D F : Nat → ByteArray × ByteArray) (T U : Nat → ByteArray × ByteArray × Int) (w : World) (hg : GrpAt w g D T) (hh : GrpAt w h F U) :
    Calls Try.prog 12 #[.agg g.l.toArray, .agg h.l.toArray] w fun e w' => e = .returned (.bool (alikeB g h D F T U)) ∧ Below w.heap.size w w' := by
  have Hg := Lib.hid hg
  have Hh := Lib.hid hh
  clear hg hh
  have hq := eql_res g h
  have hgr := guard_res
  cases hb1 : resB g h
  · have He := Lib.hid (show alikeB g h D F T U = false by simp [alikeB, hb1])
    rw [hb1] at hq
    clear hb1
    unfold Grp.l
    go_enter Try.func12, Try.ntmps12
    go_wp2
    have hcH := held_cell
    refine region_rel (by kernel_rfl) (by kernel_rfl) ?_
    repeat
      ((with_reducible refine relStep (fun K hK => ?_))
       (have HK := Lib.hid hK)
       clear hK
       (first
         | (apply relInl
            · intro r n hf
              have Hf := Lib.hid hf
              clear hf
              unfold relAt
              go_simp
              (first | (refine relUpon_val ?_ (Below.refl _ _); exact rfl) | exact rfl | (refine relUpon_enter ?_; fail))
            (simp only [Act.put, List.setIfInBounds_toArray, List.set_cons_zero, List.set_cons_succ])
            (with_reducible refine HK.out _ _ ?_)
            clear HK K)
         | (fail)))
    refine relNil ?_
    intro r2 n2 hx2
    clear hcH
    (try simp only [List.nil_append, List.cons_append, List.mem_cons, List.not_mem_nil, or_false, forall_eq_or_imp, forall_eq, false_implies, implies_true] at hx2)
    obtain ⟨w2, hb2⟩ := n2
    (try dsimp only)
    obtain ⟨hc2, hf2⟩ := bcell hb2
    have hz2 := hb2.size
    (try simp at hz2)
    go_wp2
    go_ret
    exact ⟨by rw [He.out]; rfl, by (repeat' (first | with_reducible exact Below.refl _ _ | with_reducible assumption | with_reducible refine Below.drew ?_ | with_reducible refine below_drewN' ?_ _ | with_reducible refine Below.alloc ?_ ?_ _ | with_reducible refine Below.setCell ?_ ?_ _ | with_reducible refine below_step (by assumption) ?_ ?_ | omega | (simp; done) | (simp; omega)))⟩
  · rw [hb1] at hq
    cases hb2 : eqT g.tl h.tl T U
    · have He := Lib.hid (show alikeB g h D F T U = false by simp [alikeB, hb1, hb2])
      have hr2 : decide (g.tl = h.tl ∧ ∀ i, i < g.tl → T i = U i) = false := hb2
      clear hb1 hb2
      unfold Grp.l
      go_enter Try.func12, Try.ntmps12
      go_wp2
      have Hr2 := Lib.hid hr2
      clear hr2
      have hcH := held_cell
      refine region_rel (by kernel_rfl) (by kernel_rfl) ?_
      repeat
        ((with_reducible refine relStep (fun K hK => ?_))
         (have HK := Lib.hid hK)
         clear hK
         (first
           | (apply relInl
              · intro r n hf
                have Hf := Lib.hid hf
                clear hf
                unfold relAt
                go_simp
                (first | (refine relUpon_val ?_ (Below.refl _ _); exact rfl) | exact rfl | (refine relUpon_enter ?_; (go_at_call 21; (with_reducible refine (eqtaints_any _ _ _ _ _ _ _ _ _ ((Hg.out.tnts.mono (by (repeat' (first | with_reducible exact Below.refl _ _ | with_reducible assumption | with_reducible refine Below.drew ?_ | with_reducible refine below_drewN' ?_ _ | with_reducible refine Below.alloc ?_ ?_ _ | with_reducible refine Below.setCell ?_ ?_ _ | with_reducible refine below_step (by assumption) ?_ ?_ | omega | (simp; done) | (simp; omega))))).mono n.below) ((Hh.out.tnts.mono (by (repeat' (first | with_reducible exact Below.refl _ _ | with_reducible assumption | with_reducible refine Below.drew ?_ | with_reducible refine below_drewN' ?_ _ | with_reducible refine Below.alloc ?_ ?_ _ | with_reducible refine Below.setCell ?_ ?_ _ | with_reducible refine below_step (by assumption) ?_ ?_ | omega | (simp; done) | (simp; omega))))).mono n.below) Hg.out.tn Hh.out.tn).mono ?_); rintro e w1 ⟨rfl, hb⟩; rw [Hr2.out]; exact ⟨⟨_, rfl, rfl⟩, hb⟩)))
              (simp only [Act.put, List.setIfInBounds_toArray, List.set_cons_zero, List.set_cons_succ])
              (with_reducible refine HK.out _ _ ?_)
              clear HK K)
           | (fail)))
      refine relNil ?_
      intro r2 n2 hx2
      clear hcH
      (try simp only [List.nil_append, List.cons_append, List.mem_cons, List.not_mem_nil, or_false, forall_eq_or_imp, forall_eq, false_implies, implies_true] at hx2)
      obtain ⟨w2, hb2⟩ := n2
      (try dsimp only)
      obtain ⟨hc2, hf2⟩ := bcell hb2
      have hz2 := hb2.size
      (try simp at hz2)
      go_wp2
      go_ret
      exact ⟨by rw [He.out]; rfl, by (repeat' (first | with_reducible exact Below.refl _ _ | with_reducible assumption | with_reducible refine Below.drew ?_ | with_reducible refine below_drewN' ?_ _ | with_reducible refine Below.alloc ?_ ?_ _ | with_reducible refine Below.setCell ?_ ?_ _ | with_reducible refine below_step (by assumption) ?_ ?_ | omega | (simp; done) | (simp; omega)))⟩
    · have He := Lib.hid (show alikeB g h D F T U = eqL (dropL D zone g.ll) (dropL F zone h.ll) by simp [alikeB, hb1, hb2])
      have hr2 : decide (g.tl = h.tl ∧ ∀ i, i < g.tl → T i = U i) = true := hb2
      clear hb1 hb2
      unfold Grp.l
      go_enter Try.func12, Try.ntmps12
      go_wp2
      have Hr2 := Lib.hid hr2
      clear hr2
      have hcH := held_cell
      refine region_rel (by kernel_rfl) (by kernel_rfl) ?_
      repeat
        ((with_reducible refine relStep (fun K hK => ?_))
         (have HK := Lib.hid hK)
         clear hK
         (first
           | (apply relInl
              · intro r n hf
                have Hf := Lib.hid hf
                clear hf
                unfold relAt
                go_simp
                (first | (refine relUpon_val ?_ (Below.refl _ _); exact rfl) | exact rfl | (refine relUpon_enter ?_; (first | (go_at_call 21; (with_reducible refine (eqtaints_any _ _ _ _ _ _ _ _ _ ((Hg.out.tnts.mono (by (repeat' (first | with_reducible exact Below.refl _ _ | with_reducible assumption | with_reducible refine Below.drew ?_ | with_reducible refine below_drewN' ?_ _ | with_reducible refine Below.alloc ?_ ?_ _ | with_reducible refine Below.setCell ?_ ?_ _ | with_reducible refine below_step (by assumption) ?_ ?_ | omega | (simp; done) | (simp; omega))))).mono n.below) ((Hh.out.tnts.mono (by (repeat' (first | with_reducible exact Below.refl _ _ | with_reducible assumption | with_reducible refine Below.drew ?_ | with_reducible refine below_drewN' ?_ _ | with_reducible refine Below.alloc ?_ ?_ _ | with_reducible refine Below.setCell ?_ ?_ _ | with_reducible refine below_step (by assumption) ?_ ?_ | omega | (simp; done) | (simp; omega))))).mono n.below) Hg.out.tn Hh.out.tn).mono ?_); rintro e w1 ⟨rfl, hb⟩; rw [Hr2.out]; exact ⟨⟨_, rfl, rfl⟩, hb⟩) | (go_at_call 22; obtain ⟨a1, k1, e1, h1⟩ := given_at Hf.out 0 rfl (by kernel_rfl); obtain ⟨a2, k2, e2, h2⟩ := given_at Hf.out 1 rfl (by kernel_rfl); dsimp only at e1 e2; rw [e1, e2]; (with_reducible refine (eqlabs_any _ _ _ _ _ _ _ _ _ h1 h2 (Nat.le_trans (dropL_len _ _ _) Hg.out.ln) (Nat.le_trans (dropL_len _ _ _) Hh.out.ln)).mono ?_); rintro e w1 ⟨rfl, hb⟩; exact ⟨⟨.bool (eqL (dropL D zone g.ll) (dropL F zone h.ll)), rfl, rfl⟩, hb⟩))))
              (simp only [Act.put, List.setIfInBounds_toArray, List.set_cons_zero, List.set_cons_succ])
              (with_reducible refine HK.out _ _ ?_)
              clear HK K)
           | ((first | (refine relInr (LabsIs (dropL D zone g.ll)) (LabsIs.stays _) (fun r n hf => ?_) ?_; (have Hf := Lib.hid hf; clear hf HK K; unfold relAt; go_simp; refine relUpon_enter ?_; go_at_call 23; (with_reducible refine (drop_any ⟨#[122, 111, 110, 101]⟩ _ _ _ D _ ((Hg.out.labs.mono (by (repeat' (first | with_reducible exact Below.refl _ _ | with_reducible assumption | with_reducible refine Below.drew ?_ | with_reducible refine below_drewN' ?_ _ | with_reducible refine Below.alloc ?_ ?_ _ | with_reducible refine Below.setCell ?_ ?_ _ | with_reducible refine below_step (by assumption) ?_ ?_ | omega | (simp; done) | (simp; omega))))).mono n.below) Hg.out.ln).mono ?_); rintro e w1 ⟨v, rfl, ho, hb⟩; exact ⟨⟨_, rfl, LabsIs.of_own ho⟩, hb⟩); (simp only [Act.put, List.setIfInBounds_toArray, List.set_cons_zero, List.set_cons_succ]); (with_reducible refine HK.out _ _ ?_); clear HK K) | (refine relInr (LabsIs (dropL F zone h.ll)) (LabsIs.stays _) (fun r n hf => ?_) ?_; (have Hf := Lib.hid hf; clear hf HK K; unfold relAt; go_simp; refine relUpon_enter ?_; go_at_call 23; (with_reducible refine (drop_any ⟨#[122, 111, 110, 101]⟩ _ _ _ F _ ((Hh.out.labs.mono (by (repeat' (first | with_reducible exact Below.refl _ _ | with_reducible assumption | with_reducible refine Below.drew ?_ | with_reducible refine below_drewN' ?_ _ | with_reducible refine Below.alloc ?_ ?_ _ | with_reducible refine Below.setCell ?_ ?_ _ | with_reducible refine below_step (by assumption) ?_ ?_ | omega | (simp; done) | (simp; omega))))).mono n.below) Hh.out.ln).mono ?_); rintro e w1 ⟨v, rfl, ho, hb⟩; exact ⟨⟨_, rfl, LabsIs.of_own ho⟩, hb⟩); (simp only [Act.put, List.setIfInBounds_toArray, List.set_cons_zero, List.set_cons_succ]); (with_reducible refine HK.out _ _ ?_); clear HK K)))))
      refine relNil ?_
      intro r2 n2 hx2
      clear hcH
      (try simp only [List.nil_append, List.cons_append, List.mem_cons, List.not_mem_nil, or_false, forall_eq_or_imp, forall_eq, false_implies, implies_true] at hx2)
      obtain ⟨w2, hb2⟩ := n2
      (try dsimp only)
      obtain ⟨hc2, hf2⟩ := bcell hb2
      have hz2 := hb2.size
      (try simp at hz2)
      go_wp2
      go_ret
      exact ⟨by rw [He.out]; rfl, by (repeat' (first | with_reducible exact Below.refl _ _ | with_reducible assumption | with_reducible refine Below.drew ?_ | with_reducible refine below_drewN' ?_ _ | with_reducible refine Below.alloc ?_ ?_ _ | with_reducible refine Below.setCell ?_ ?_ _ | with_reducible refine below_step (by assumption) ?_ ?_ | omega | (simp; done) | (simp; omega)))⟩
set_option maxRecDepth 100000 in
set_option maxHeartbeats 4000000 in
theorem refalike_any (g h : Grp) (D F : Nat → ByteArray × ByteArray) (T U : Nat → ByteArray × ByteArray × Int) (w : World) (hg : GrpAt w g D T) (hh : GrpAt w h F U) :
    Calls Try.prog 13 #[.agg g.l.toArray, .agg h.l.toArray] w fun e w' => e = .returned (.bool (alikeB g h D F T U)) ∧ Below w.heap.size w w' := by
  have Hg := Lib.hid hg
  have Hh := Lib.hid hh
  clear hg hh
  have hq := eql_res g h
  have hgr := guard_res
  cases hb1 : resB g h
  · have He := Lib.hid (show alikeB g h D F T U = false by simp [alikeB, hb1])
    rw [hb1] at hq
    clear hb1
    unfold Grp.l
    go_enter Try.func13, Try.ntmps13
    go_wp2
    have hcH := held_cell
    refine region_rel (by kernel_rfl) (by kernel_rfl) ?_
    repeat
      ((with_reducible refine relStep (fun K hK => ?_))
       (have HK := Lib.hid hK)
       clear hK
       (first
         | (apply relInl
            · intro r n hf
              have Hf := Lib.hid hf
              clear hf
              unfold relAt
              go_simp
              (first | (refine relUpon_val ?_ (Below.refl _ _); exact rfl) | exact rfl | (refine relUpon_enter ?_; fail))
            (simp only [Act.put, List.setIfInBounds_toArray, List.set_cons_zero, List.set_cons_succ])
            (with_reducible refine HK.out _ _ ?_)
            clear HK K)
         | (fail)))
    refine relNil ?_
    intro r2 n2 hx2
    clear hcH
    (try simp only [List.nil_append, List.cons_append, List.mem_cons, List.not_mem_nil, or_false, forall_eq_or_imp, forall_eq, false_implies, implies_true] at hx2)
    obtain ⟨w2, hb2⟩ := n2
    (try dsimp only)
    obtain ⟨hc2, hf2⟩ := bcell hb2
    have hz2 := hb2.size
    (try simp at hz2)
    go_wp2
    go_ret
    exact ⟨by rw [He.out]; rfl, by (repeat' (first | with_reducible exact Below.refl _ _ | with_reducible assumption | with_reducible refine Below.drew ?_ | with_reducible refine below_drewN' ?_ _ | with_reducible refine Below.alloc ?_ ?_ _ | with_reducible refine Below.setCell ?_ ?_ _ | with_reducible refine below_step (by assumption) ?_ ?_ | omega | (simp; done) | (simp; omega)))⟩
  · rw [hb1] at hq
    cases hb2 : eqT g.tl h.tl T U
    · have He := Lib.hid (show alikeB g h D F T U = false by simp [alikeB, hb1, hb2])
      have hr2 : decide (g.tl = h.tl ∧ ∀ i, i < g.tl → T i = U i) = false := hb2
      clear hb1 hb2
      unfold Grp.l
      go_enter Try.func13, Try.ntmps13
      go_wp2
      have Hr2 := Lib.hid hr2
      clear hr2
      have hcH := held_cell
      refine region_rel (by kernel_rfl) (by kernel_rfl) ?_
      repeat
        ((with_reducible refine relStep (fun K hK => ?_))
         (have HK := Lib.hid hK)
         clear hK
         (first
           | (apply relInl
              · intro r n hf
                have Hf := Lib.hid hf
                clear hf
                unfold relAt
                go_simp
                (first | (refine relUpon_val ?_ (Below.refl _ _); exact rfl) | exact rfl | (refine relUpon_enter ?_; (go_at_call 24; (with_reducible refine (sametaints_any _ _ _ _ _ _ _ _ _ ((Hg.out.tnts.mono (by (repeat' (first | with_reducible exact Below.refl _ _ | with_reducible assumption | with_reducible refine Below.drew ?_ | with_reducible refine below_drewN' ?_ _ | with_reducible refine Below.alloc ?_ ?_ _ | with_reducible refine Below.setCell ?_ ?_ _ | with_reducible refine below_step (by assumption) ?_ ?_ | omega | (simp; done) | (simp; omega))))).mono n.below) ((Hh.out.tnts.mono (by (repeat' (first | with_reducible exact Below.refl _ _ | with_reducible assumption | with_reducible refine Below.drew ?_ | with_reducible refine below_drewN' ?_ _ | with_reducible refine Below.alloc ?_ ?_ _ | with_reducible refine Below.setCell ?_ ?_ _ | with_reducible refine below_step (by assumption) ?_ ?_ | omega | (simp; done) | (simp; omega))))).mono n.below) Hg.out.tn Hh.out.tn).mono ?_); rintro e w1 ⟨rfl, hb⟩; rw [Hr2.out]; exact ⟨⟨_, rfl, rfl⟩, hb⟩)))
              (simp only [Act.put, List.setIfInBounds_toArray, List.set_cons_zero, List.set_cons_succ])
              (with_reducible refine HK.out _ _ ?_)
              clear HK K)
           | (fail)))
      refine relNil ?_
      intro r2 n2 hx2
      clear hcH
      (try simp only [List.nil_append, List.cons_append, List.mem_cons, List.not_mem_nil, or_false, forall_eq_or_imp, forall_eq, false_implies, implies_true] at hx2)
      obtain ⟨w2, hb2⟩ := n2
      (try dsimp only)
      obtain ⟨hc2, hf2⟩ := bcell hb2
      have hz2 := hb2.size
      (try simp at hz2)
      go_wp2
      go_ret
      exact ⟨by rw [He.out]; rfl, by (repeat' (first | with_reducible exact Below.refl _ _ | with_reducible assumption | with_reducible refine Below.drew ?_ | with_reducible refine below_drewN' ?_ _ | with_reducible refine Below.alloc ?_ ?_ _ | with_reducible refine Below.setCell ?_ ?_ _ | with_reducible refine below_step (by assumption) ?_ ?_ | omega | (simp; done) | (simp; omega)))⟩
    · have He := Lib.hid (show alikeB g h D F T U = eqL (dropL D zone g.ll) (dropL F zone h.ll) by simp [alikeB, hb1, hb2])
      have hr2 : decide (g.tl = h.tl ∧ ∀ i, i < g.tl → T i = U i) = true := hb2
      clear hb1 hb2
      unfold Grp.l
      go_enter Try.func13, Try.ntmps13
      go_wp2
      have Hr2 := Lib.hid hr2
      clear hr2
      have hcH := held_cell
      refine region_rel (by kernel_rfl) (by kernel_rfl) ?_
      repeat
        ((with_reducible refine relStep (fun K hK => ?_))
         (have HK := Lib.hid hK)
         clear hK
         (first
           | (apply relInl
              · intro r n hf
                have Hf := Lib.hid hf
                clear hf
                unfold relAt
                go_simp
                (first | (refine relUpon_val ?_ (Below.refl _ _); exact rfl) | exact rfl | (refine relUpon_enter ?_; (first | (go_at_call 24; (with_reducible refine (sametaints_any _ _ _ _ _ _ _ _ _ ((Hg.out.tnts.mono (by (repeat' (first | with_reducible exact Below.refl _ _ | with_reducible assumption | with_reducible refine Below.drew ?_ | with_reducible refine below_drewN' ?_ _ | with_reducible refine Below.alloc ?_ ?_ _ | with_reducible refine Below.setCell ?_ ?_ _ | with_reducible refine below_step (by assumption) ?_ ?_ | omega | (simp; done) | (simp; omega))))).mono n.below) ((Hh.out.tnts.mono (by (repeat' (first | with_reducible exact Below.refl _ _ | with_reducible assumption | with_reducible refine Below.drew ?_ | with_reducible refine below_drewN' ?_ _ | with_reducible refine Below.alloc ?_ ?_ _ | with_reducible refine Below.setCell ?_ ?_ _ | with_reducible refine below_step (by assumption) ?_ ?_ | omega | (simp; done) | (simp; omega))))).mono n.below) Hg.out.tn Hh.out.tn).mono ?_); rintro e w1 ⟨rfl, hb⟩; rw [Hr2.out]; exact ⟨⟨_, rfl, rfl⟩, hb⟩) | (go_at_call 25; obtain ⟨a1, k1, e1, h1⟩ := given_at Hf.out 0 rfl (by kernel_rfl); obtain ⟨a2, k2, e2, h2⟩ := given_at Hf.out 1 rfl (by kernel_rfl); dsimp only at e1 e2; rw [e1, e2]; (with_reducible refine (samelabs_any _ _ _ _ _ _ _ _ _ h1 h2 (Nat.le_trans (dropL_len _ _ _) Hg.out.ln) (Nat.le_trans (dropL_len _ _ _) Hh.out.ln)).mono ?_); rintro e w1 ⟨rfl, hb⟩; exact ⟨⟨.bool (eqL (dropL D zone g.ll) (dropL F zone h.ll)), rfl, rfl⟩, hb⟩))))
              (simp only [Act.put, List.setIfInBounds_toArray, List.set_cons_zero, List.set_cons_succ])
              (with_reducible refine HK.out _ _ ?_)
              clear HK K)
           | ((first | (refine relInr (LabsIs (dropL D zone g.ll)) (LabsIs.stays _) (fun r n hf => ?_) ?_; (have Hf := Lib.hid hf; clear hf HK K; unfold relAt; go_simp; refine relUpon_enter ?_; go_at_call 26; (with_reducible refine (refdrop_any ⟨#[122, 111, 110, 101]⟩ _ _ _ D _ ((Hg.out.labs.mono (by (repeat' (first | with_reducible exact Below.refl _ _ | with_reducible assumption | with_reducible refine Below.drew ?_ | with_reducible refine below_drewN' ?_ _ | with_reducible refine Below.alloc ?_ ?_ _ | with_reducible refine Below.setCell ?_ ?_ _ | with_reducible refine below_step (by assumption) ?_ ?_ | omega | (simp; done) | (simp; omega))))).mono n.below) Hg.out.ln).mono ?_); rintro e w1 ⟨v, rfl, ho, hb⟩; exact ⟨⟨_, rfl, LabsIs.of_own ho⟩, hb⟩); (simp only [Act.put, List.setIfInBounds_toArray, List.set_cons_zero, List.set_cons_succ]); (with_reducible refine HK.out _ _ ?_); clear HK K) | (refine relInr (LabsIs (dropL F zone h.ll)) (LabsIs.stays _) (fun r n hf => ?_) ?_; (have Hf := Lib.hid hf; clear hf HK K; unfold relAt; go_simp; refine relUpon_enter ?_; go_at_call 26; (with_reducible refine (refdrop_any ⟨#[122, 111, 110, 101]⟩ _ _ _ F _ ((Hh.out.labs.mono (by (repeat' (first | with_reducible exact Below.refl _ _ | with_reducible assumption | with_reducible refine Below.drew ?_ | with_reducible refine below_drewN' ?_ _ | with_reducible refine Below.alloc ?_ ?_ _ | with_reducible refine Below.setCell ?_ ?_ _ | with_reducible refine below_step (by assumption) ?_ ?_ | omega | (simp; done) | (simp; omega))))).mono n.below) Hh.out.ln).mono ?_); rintro e w1 ⟨v, rfl, ho, hb⟩; exact ⟨⟨_, rfl, LabsIs.of_own ho⟩, hb⟩); (simp only [Act.put, List.setIfInBounds_toArray, List.set_cons_zero, List.set_cons_succ]); (with_reducible refine HK.out _ _ ?_); clear HK K)))))
      refine relNil ?_
      intro r2 n2 hx2
      clear hcH
      (try simp only [List.nil_append, List.cons_append, List.mem_cons, List.not_mem_nil, or_false, forall_eq_or_imp, forall_eq, false_implies, implies_true] at hx2)
      obtain ⟨w2, hb2⟩ := n2
      (try dsimp only)
      obtain ⟨hc2, hf2⟩ := bcell hb2
      have hz2 := hb2.size
      (try simp at hz2)
      go_wp2
      go_ret
      exact ⟨by rw [He.out]; rfl, by (repeat' (first | with_reducible exact Below.refl _ _ | with_reducible assumption | with_reducible refine Below.drew ?_ | with_reducible refine below_drewN' ?_ _ | with_reducible refine Below.alloc ?_ ?_ _ | with_reducible refine Below.setCell ?_ ?_ _ | with_reducible refine below_step (by assumption) ?_ ?_ | omega | (simp; done) | (simp; omega)))⟩
end Go.Proofs.Ytlgbbfaeclaghaa
