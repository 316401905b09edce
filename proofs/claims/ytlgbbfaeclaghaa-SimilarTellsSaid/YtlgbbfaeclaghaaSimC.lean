/-
  The contracts of similar.Of and of triremeref22.Of.
-/
import Derived.Test.YtlgbbfaeclaghaaSimB
namespace Go.Proofs.Ytlgbbfaeclaghaa
open Go.RowKit
set_option linter.unusedVariables false

def ics (i : Nat) : List Value := [.int .i64 i]
theorem ics_len (x : Nat) : (ics x).length = 1 := rfl
theorem ics_one (x : Nat) : ∀ u ∈ ics x, u.oneCell' = true := by
  intro u hu
  simp only [ics, List.mem_cons, List.not_mem_nil, or_false] at hu
  rcases hu with rfl; rfl

/-- A value that is a slice of these numbers. -/
def IntsIs (l : List Nat) (v : Value) (w : World) : Prop := ∃ a k, v = .slice a l.length k ∧ IntsAt w a l.length (fun i => (l.getD i 0 : Nat))
theorem IntsIs.stays (l : List Nat) : Stays (IntsIs l) := fun v w w' hb h => by
  obtain ⟨a, k, e, h⟩ := h
  exact ⟨a, k, e, h.mono hb⟩
theorem IntsIs.of_own {l : List Nat} {w : World} {base : Nat} {v : Value} (h : w.ownsRow base 3 1 v l.length (l.flatMap ics)) : IntsIs l v w := by
  obtain ⟨sp, cap, rfl, hc⟩ := own_rows ics_len h (by decide)
  refine ⟨sp, cap, rfl, fun h0 => ?_⟩
  obtain ⟨b, rfl, _, hlt, hcs⟩ := hc h0
  refine ⟨b, 0, rfl, hlt, fun i hi => ?_⟩
  have hx : l[i]? = some (l.getD i 0) := by simp [List.getD_eq_getElem?_getD, hi]
  have := hcs i _ hx 0 (by decide)
  simpa [ics] using this

def ofL (P : Nat → Bool) (k : Nat) : List Nat := (List.range k).filter P
theorem ofL_yes (P : Nat → Bool) (k : Nat) (h : P k = true) : ofL P (k + 1) = ofL P k ++ [k] := by simp [ofL, List.range_succ, List.filter_append, h]
theorem ofL_no (P : Nat → Bool) (k : Nat) (h : P k = false) : ofL P (k + 1) = ofL P k := by simp [ofL, List.range_succ, List.filter_append, h]
theorem ofL_len (P : Nat → Bool) (k : Nat) : (ofL P k).length ≤ k := by
  refine Nat.le_trans (List.length_filter_le _ _) (by simp)

section
variable (G : Nat → Grp) (L : Nat → Nat → ByteArray × ByteArray) (T : Nat → Nat → ByteArray × ByteArray × Int)
def likeB (p i : Nat) : Bool := alikeB (G i) (G p) (L i) (L p) (T i) (T p)
def ofR (n : Nat) (key : ByteArray) : List Nat := if findN (fun i => (G i).nm) key n < 0 then [] else ofL (likeB G L T (findN (fun i => (G i).nm) key n).toNat) n
end
def OfPost (w : World) (l : List Nat) (e : Ending) (w' : World) : Prop := ∃ v, e = .returned v ∧ IntsIs l v w' ∧ Below w.heap.size w w'
theorem OfPost.nil {w w' : World} {l : List Nat} (h : l = []) (hb : Below w.heap.size w w') : OfPost w l (.returned (.slice none 0 0)) w' := ⟨_, rfl, ⟨none, 0, by rw [h]; rfl, fun h0 => absurd h0 (by simp [h])⟩, hb⟩
theorem OfPost.mk {w w' : World} {l m : List Nat} {v : Value} {base : Nat} (h : l = m) (ho : w'.ownsRow base 3 1 v m.length (m.flatMap ics)) (hb : Below w.heap.size w w') : OfPost w l (.returned v) w' := ⟨_, rfl, h ▸ IntsIs.of_own ho, hb⟩

theorem alike_lit (g h : Grp) (D F : Nat → ByteArray × ByteArray) (T U : Nat → ByteArray × ByteArray × Int) (w : World) (hg : GrpAt w g D T) (hh : GrpAt w h F U) :
    Calls Try.prog 12 #[.agg #[.string (g).nm, .int .i64 (g).mn, .int .i64 (g).mx, .string (g).mm, .string (g).mg, .int .i64 (g).r0, .int .i64 (g).r1, .int .i64 (g).r2, .int .i64 (g).r3, .int .i64 (g).r4, .slice (g).la (g).ll (g).lk, .slice (g).ta (g).tl (g).tk, .bool (g).rd, .int .i64 (g).pr, .int .i64 (g).rk], .agg #[.string (h).nm, .int .i64 (h).mn, .int .i64 (h).mx, .string (h).mm, .string (h).mg, .int .i64 (h).r0, .int .i64 (h).r1, .int .i64 (h).r2, .int .i64 (h).r3, .int .i64 (h).r4, .slice (h).la (h).ll (h).lk, .slice (h).ta (h).tl (h).tk, .bool (h).rd, .int .i64 (h).pr, .int .i64 (h).rk]] w fun e w' => e = .returned (.bool (alikeB g h D F T U)) ∧ Below w.heap.size w w' := alike_any g h D F T U w hg hh
theorem refalike_lit (g h : Grp) (D F : Nat → ByteArray × ByteArray) (T U : Nat → ByteArray × ByteArray × Int) (w : World) (hg : GrpAt w g D T) (hh : GrpAt w h F U) :
    Calls Try.prog 13 #[.agg #[.string (g).nm, .int .i64 (g).mn, .int .i64 (g).mx, .string (g).mm, .string (g).mg, .int .i64 (g).r0, .int .i64 (g).r1, .int .i64 (g).r2, .int .i64 (g).r3, .int .i64 (g).r4, .slice (g).la (g).ll (g).lk, .slice (g).ta (g).tl (g).tk, .bool (g).rd, .int .i64 (g).pr, .int .i64 (g).rk], .agg #[.string (h).nm, .int .i64 (h).mn, .int .i64 (h).mx, .string (h).mm, .string (h).mg, .int .i64 (h).r0, .int .i64 (h).r1, .int .i64 (h).r2, .int .i64 (h).r3, .int .i64 (h).r4, .slice (h).la (h).ll (h).lk, .slice (h).ta (h).tl (h).tk, .bool (h).rd, .int .i64 (h).pr, .int .i64 (h).rk]] w fun e w' => e = .returned (.bool (alikeB g h D F T U)) ∧ Below w.heap.size w w' := refalike_any g h D F T U w hg hh

theorem Try.info3 : (Try.prog.info? 3).map (fun i => (i.zero, i.size, i.bytes)) = some (some (.int .i64 0), 1, 8) := by kernel_rfl

set_option maxRecDepth 100000 in
set_option maxHeartbeats 4000000 in
theorem of_any (a : Option Addr) (n ka : Nat) (G : Nat → Grp) (L : Nat → Nat → ByteArray × ByteArray) (T : Nat → Nat → ByteArray × ByteArray × Int) (key : ByteArray) (w : World) (hG : GrpsAt w a n G) (hA : ∀ i, i < n → GrpAt w (G i) (L i) (T i)) (hn : n ≤ 1000000) :
    Calls Try.prog 14 #[.slice a n ka, .string key] w (OfPost w (ofR G L T n key)) := by
  have HG := Lib.hid hG
  have HA := Lib.hid hA
  clear hG hA
  obtain ⟨i0, hi, hz0, hz1, hz2⟩ := info_parts Try.info3
  have Hi := Lib.hid hi
  have Hz0 := Lib.hid hz0
  have Hz1 := Lib.hid hz1
  have Hz2 := Lib.hid hz2
  clear hi hz0 hz1 hz2
  have hbd := findN_bd (fun i => (G i).nm) key n
  by_cases hneg : findN (fun i => (G i).nm) key n < 0
  · have He := Lib.hid (show ofR G L T n key = [] from if_pos hneg)
    go_enter Try.func14, Try.ntmps14
    go_wp2_with fail
    (go_at_call 27; refine (indexfunc_any _ _ _ _ key _ _ (HG.out.mono (by (repeat' (first | with_reducible exact Below.refl _ _ | with_reducible assumption | with_reducible refine Below.drew ?_ | with_reducible refine below_drewN' ?_ _ | with_reducible refine Below.alloc ?_ ?_ _ | with_reducible refine Below.setCell ?_ ?_ _ | with_reducible refine below_step (by assumption) ?_ ?_ | omega | (simp; done) | (simp; omega))))) hn (by simp) (by simp [go_sem])).mono ?_; rintro e w4 ⟨rfl, hb4⟩)
    obtain ⟨hc4, hf4⟩ := bcell hb4
    have hz4 := hb4.size
    (try simp at hz4)
    go_wp2
    refine bodyPost_ret (v := .slice none 0 0) (by simp [results, Try.results14, go_sem]) rfl (OfPost.nil He.out ?_)
    (repeat' (first | with_reducible exact Below.refl _ _ | with_reducible assumption | with_reducible refine Below.drew ?_ | with_reducible refine below_drewN' ?_ _ | with_reducible refine Below.alloc ?_ ?_ _ | with_reducible refine Below.setCell ?_ ?_ _ | with_reducible refine below_step (by assumption) ?_ ?_ | omega | (simp; done) | (simp; omega)))
  · obtain ⟨p, hp⟩ : ∃ p : Nat, findN (fun i => (G i).nm) key n = p := ⟨(findN (fun i => (G i).nm) key n).toNat, by omega⟩
    have hpn : p < n := by omega
    have He := Lib.hid (show ofR G L T n key = ofL (likeB G L T p) n by unfold ofR; rw [if_neg hneg, hp]; rfl)
    have Hp := Lib.hid hp
    clear hneg hbd hp
    go_enter Try.func14, Try.ntmps14
    go_wp2_with fail
    (go_at_call 27; refine (indexfunc_any _ _ _ _ key _ _ (HG.out.mono (by (repeat' (first | with_reducible exact Below.refl _ _ | with_reducible assumption | with_reducible refine Below.drew ?_ | with_reducible refine below_drewN' ?_ _ | with_reducible refine Below.alloc ?_ ?_ _ | with_reducible refine Below.setCell ?_ ?_ _ | with_reducible refine below_step (by assumption) ?_ ?_ | omega | (simp; done) | (simp; omega))))) hn (by simp) (by simp [go_sem])).mono ?_; rintro e w4 ⟨rfl, hb4⟩; rw [Hp.out])
    obtain ⟨hc4, hf4⟩ := bcell hb4
    have hz4 := hb4.size
    (try simp at hz4)
    go_wp2
    go_loopw [6, 16] (fun v i wr => ∃ k : Nat, k ≤ n ∧ i = .int .i64 k ∧ wr.ownsRow w.heap.size 3 1 v (ofL (likeB G L T p) k).length ((ofL (likeB G L T p) k).flatMap ics) ∧ Below w.heap.size w wr) (fun _ i _ => n - (intOf i).toNat)
    case atStart => exact ⟨0, by omega, rfl, World.ownsRow_nil _ _ _ _, by (repeat' (first | with_reducible exact Below.refl _ _ | with_reducible assumption | with_reducible refine Below.drew ?_ | with_reducible refine below_drewN' ?_ _ | with_reducible refine Below.alloc ?_ ?_ _ | with_reducible refine Below.setCell ?_ ?_ _ | with_reducible refine below_step (by assumption) ?_ ?_ | omega | (simp; done) | (simp; omega)))⟩
    case round =>
      obtain ⟨k, hk, rfl, hown, hB⟩ := hrel
      obtain ⟨hcB, hfB⟩ := bcell hB
      have hbz := hB.size
      have Hown := Lib.hid hown
      have HB := Lib.hid hB
      clear hown
      by_cases hlt : k < n
      · obtain ⟨b2, off, rfl, hb2, hc2⟩ := HG.out (by omega)
        have hbw2 : b2 < wr.heap.size := by omega
        obtain ⟨c0, c1, c2, c3, c4, c5, c6, c7, c8, c9, c10, c11, c12, c13, c14⟩ := grp_cells (hc2 k hlt)
        obtain ⟨d0, d1, d2, d3, d4, d5, d6, d7, d8, d9, d10, d11, d12, d13, d14⟩ := grp_cells (hc2 p hpn)
        clear hc2
        cases hv : likeB G L T p k
        · have Hv := Lib.hid (show alikeB (G k) (G p) (L k) (L p) (T k) (T p) = false from hv)
          have Hs := Lib.hid (ofL_no (likeB G L T p) k hv)
          clear hv
          go_wp2
          have hcH := held_cell
          refine region_rel (by kernel_rfl) (by kernel_rfl) ?_
          repeat
            ((with_reducible refine relStep (fun K hK => ?_))
             (have HK := Lib.hid hK)
             clear hK
             (first
               | (apply relInl
                  · intro r n hf
                    have Hf := Lib.hid hf
                    clear hf
                    unfold relAt
                    go_simp
                    (first | (refine relUpon_val ?_ (Below.refl _ _); exact rfl) | exact rfl | (refine relUpon_enter ?_; (go_at_call 12; (with_reducible refine (alike_lit (G k) (G p) (L k) (L p) (T k) (T p) _ ((HA.out k hlt).mono (by (have hnb := n.below); (repeat' (first | with_reducible exact Below.refl _ _ | with_reducible assumption | with_reducible refine Below.drew ?_ | with_reducible refine below_drewN' ?_ _ | with_reducible refine Below.alloc ?_ ?_ _ | with_reducible refine Below.setCell ?_ ?_ _ | with_reducible refine below_step (by assumption) ?_ ?_ | omega | (simp; done) | (simp; omega))))) ((HA.out p hpn).mono (by (have hnb := n.below); (repeat' (first | with_reducible exact Below.refl _ _ | with_reducible assumption | with_reducible refine Below.drew ?_ | with_reducible refine below_drewN' ?_ _ | with_reducible refine Below.alloc ?_ ?_ _ | with_reducible refine Below.setCell ?_ ?_ _ | with_reducible refine below_step (by assumption) ?_ ?_ | omega | (simp; done) | (simp; omega)))))).mono ?_); rintro e w1 ⟨rfl, hb⟩; rw [Hv.out]; exact ⟨⟨_, rfl, rfl⟩, hb⟩)))
                  (simp only [Act.put, List.setIfInBounds_toArray, List.set_cons_zero, List.set_cons_succ])
                  (with_reducible refine HK.out _ _ ?_)
                  clear HK K)
               | (fail)))
          refine relNil ?_
          intro r5 n5 hx5
          clear hcH
          (try simp only [List.nil_append, List.cons_append, List.mem_cons, List.not_mem_nil, or_false, forall_eq_or_imp, forall_eq, false_implies, implies_true] at hx5)
          obtain ⟨w5, hb5⟩ := n5
          (try dsimp only)
          obtain ⟨hc5, hf5⟩ := bcell hb5
          have hz5 := hb5.size
          (try simp at hz5)
          go_wp2
          go_roundw
          case rel => exact ⟨k + 1, by omega, by go_num, by rw [Hs.out]; exact own_kept (Hown.out.alloc _) hb5, by (repeat' (first | with_reducible exact Below.refl _ _ | with_reducible assumption | with_reducible refine Below.drew ?_ | with_reducible refine below_drewN' ?_ _ | with_reducible refine Below.alloc ?_ ?_ _ | with_reducible refine Below.setCell ?_ ?_ _ | with_reducible refine below_step (by assumption) ?_ ?_ | omega | (simp; done) | (simp; omega)))⟩
          case measure => simp [intOf]; omega
        · have Hv := Lib.hid (show alikeB (G k) (G p) (L k) (L p) (T k) (T p) = true from hv)
          have Hs := Lib.hid (ofL_yes (likeB G L T p) k hv)
          clear hv
          have hL := ofL_len (likeB G L T p) k
          have hc3 : (ofL (likeB G L T p) k).length + 1 ≤ maxLen := by unfold maxLen; omega
          have hc4 : ((ofL (likeB G L T p) k).length + 1) * 8 ≤ 140737488355328 := by omega
          have Hrow := Lib.hid (show (ofL (likeB G L T p) k).flatMap ics ++ ics k = (ofL (likeB G L T p) (k + 1)).flatMap ics by rw [Hs.out]; simp)
          have Hlen := Lib.hid (show (ofL (likeB G L T p) k).length + 1 = (ofL (likeB G L T p) (k + 1)).length by rw [Hs.out]; simp)
          clear hL
          go_wp2
          have hcH := held_cell
          refine region_rel (by kernel_rfl) (by kernel_rfl) ?_
          repeat
            ((with_reducible refine relStep (fun K hK => ?_))
             (have HK := Lib.hid hK)
             clear hK
             (first
               | (apply relInl
                  · intro r n hf
                    have Hf := Lib.hid hf
                    clear hf
                    unfold relAt
                    go_simp
                    (first | (refine relUpon_val ?_ (Below.refl _ _); exact rfl) | exact rfl | (refine relUpon_enter ?_; (go_at_call 12; (with_reducible refine (alike_lit (G k) (G p) (L k) (L p) (T k) (T p) _ ((HA.out k hlt).mono (by (have hnb := n.below); (repeat' (first | with_reducible exact Below.refl _ _ | with_reducible assumption | with_reducible refine Below.drew ?_ | with_reducible refine below_drewN' ?_ _ | with_reducible refine Below.alloc ?_ ?_ _ | with_reducible refine Below.setCell ?_ ?_ _ | with_reducible refine below_step (by assumption) ?_ ?_ | omega | (simp; done) | (simp; omega))))) ((HA.out p hpn).mono (by (have hnb := n.below); (repeat' (first | with_reducible exact Below.refl _ _ | with_reducible assumption | with_reducible refine Below.drew ?_ | with_reducible refine below_drewN' ?_ _ | with_reducible refine Below.alloc ?_ ?_ _ | with_reducible refine Below.setCell ?_ ?_ _ | with_reducible refine below_step (by assumption) ?_ ?_ | omega | (simp; done) | (simp; omega)))))).mono ?_); rintro e w1 ⟨rfl, hb⟩; rw [Hv.out]; exact ⟨⟨_, rfl, rfl⟩, hb⟩)))
                  (simp only [Act.put, List.setIfInBounds_toArray, List.set_cons_zero, List.set_cons_succ])
                  (with_reducible refine HK.out _ _ ?_)
                  clear HK K)
               | (fail)))
          refine relNil ?_
          intro r5 n5 hx5
          clear hcH
          (try simp only [List.nil_append, List.cons_append, List.mem_cons, List.not_mem_nil, or_false, forall_eq_or_imp, forall_eq, false_implies, implies_true] at hx5)
          obtain ⟨w5, hb5⟩ := n5
          (try dsimp only)
          obtain ⟨hc5, hf5⟩ := bcell hb5
          have hz5 := hb5.size
          (try simp at hz5)
          have HO5 := Lib.hid (own_kept (Hown.out.alloc _) hb5)
          have HB5 := Lib.hid (show Below w.heap.size w w5 by (repeat' (first | with_reducible exact Below.refl _ _ | with_reducible assumption | with_reducible refine Below.drew ?_ | with_reducible refine below_drewN' ?_ _ | with_reducible refine Below.alloc ?_ ?_ _ | with_reducible refine Below.setCell ?_ ?_ _ | with_reducible refine below_step (by assumption) ?_ ?_ | omega | (simp; done) | (simp; omega))))
          have hw5 : w.heap.size ≤ w5.heap.size := by omega
  
          go_wp2_with (first | (at_builtin; refine wpList_append_own _ rfl (.tmp 27) (.tmp 29) 25 rfl w.heap.size 3 i0 _ 1 8 Try.underlying25 Hi.out Hz0.out Hz1.out Hz2.out rfl (by decide) _ (ofL (likeB G L T p) k).length ((ofL (likeB G L T p) k).flatMap ics) rfl (HO5.out.alloc _) ⟨w5.heap.size, 0, none⟩ 1 1 (ics k) rfl rfl (news_at _ _ _) (ics_one _) hc3 hc4 (le_alloc hw5 _) ?_; intro v1 w1 hown1 hgrow1 _; rw [Hrow.out, Hlen.out] at hown1; have hB1 := own_below (HO5.out.alloc _) (HB5.out.alloc hw5 _) (le_alloc hw5 _) hgrow1; have HO1 := Lib.hid hown1; clear hown1 hgrow1))
          go_roundw
          case rel => exact ⟨k + 1, by omega, by go_num, HO1.out, hB1⟩
          case measure => simp [intOf]; omega
      · obtain rfl : k = n := by omega
        have HP := Lib.hid (show ∀ v, wr.ownsRow w.heap.size 3 1 v (ofL (likeB G L T p) k).length ((ofL (likeB G L T p) k).flatMap ics) → OfPost w (ofR G L T k key) (.returned v) wr from fun v h => OfPost.mk He.out h HB.out)
        go_wp2
        refine bodyPost_ret (by simp [results, Try.results14, go_sem]) rfl (HP.out _ Hown.out)
set_option maxRecDepth 100000 in
set_option maxHeartbeats 4000000 in
theorem refof_any (a : Option Addr) (n ka : Nat) (G : Nat → Grp) (L : Nat → Nat → ByteArray × ByteArray) (T : Nat → Nat → ByteArray × ByteArray × Int) (key : ByteArray) (w : World) (hG : GrpsAt w a n G) (hA : ∀ i, i < n → GrpAt w (G i) (L i) (T i)) (hn : n ≤ 1000000) :
    Calls Try.prog 15 #[.slice a n ka, .string key] w (OfPost w (ofR G L T n key)) := by
  have HG := Lib.hid hG
  have HA := Lib.hid hA
  clear hG hA
  obtain ⟨i0, hi, hz0, hz1, hz2⟩ := info_parts Try.info3
  have Hi := Lib.hid hi
  have Hz0 := Lib.hid hz0
  have Hz1 := Lib.hid hz1
  have Hz2 := Lib.hid hz2
  clear hi hz0 hz1 hz2
  have hbd := findN_bd (fun i => (G i).nm) key n
  by_cases hneg : findN (fun i => (G i).nm) key n < 0
  · have He := Lib.hid (show ofR G L T n key = [] from if_pos hneg)
    have Hneg := Lib.hid hneg
    go_enter Try.func15, Try.ntmps15
    go_wp2_with fail
    (go_at_call 20; refine (find_any _ _ _ _ key _ (HG.out.mono (by (repeat' (first | with_reducible exact Below.refl _ _ | with_reducible assumption | with_reducible refine Below.drew ?_ | with_reducible refine below_drewN' ?_ _ | with_reducible refine Below.alloc ?_ ?_ _ | with_reducible refine Below.setCell ?_ ?_ _ | with_reducible refine below_step (by assumption) ?_ ?_ | omega | (simp; done) | (simp; omega))))) hn).mono ?_; rintro e w4 ⟨rfl, hb4⟩)
    obtain ⟨hc4, hf4⟩ := bcell hb4
    have hz4 := hb4.size
    have hd : decide (0 ≤ findN (fun i => (G i).nm) key n) = false := by simp; omega
    have hd2 : (0 ≤ findN (fun i => (G i).nm) key n) = False := by simp; omega
    go_wp2
    go_loopw [6, 7] (fun v i wr => i = .int .i64 0 ∧ v = .slice none 0 0 ∧ Below w.heap.size w wr) (fun _ i _ => 0)
    case atStart => exact ⟨rfl, rfl, by (repeat' (first | with_reducible exact Below.refl _ _ | with_reducible assumption | with_reducible refine Below.drew ?_ | with_reducible refine below_drewN' ?_ _ | with_reducible refine Below.alloc ?_ ?_ _ | with_reducible refine Below.setCell ?_ ?_ _ | with_reducible refine below_step (by assumption) ?_ ?_ | omega | (simp; done) | (simp; omega)))⟩
    case round =>
      obtain ⟨rfl, rfl, hB⟩ := hrel
      by_cases h0 : 0 < n
      all_goals
        go_wp2
        refine bodyPost_ret (v := .slice none 0 0) (by simp [results, Try.results15, go_sem]) rfl (OfPost.nil He.out ?_)
        (repeat' (first | with_reducible exact Below.refl _ _ | with_reducible assumption | with_reducible refine Below.drew ?_ | with_reducible refine below_drewN' ?_ _ | with_reducible refine Below.alloc ?_ ?_ _ | with_reducible refine Below.setCell ?_ ?_ _ | with_reducible refine below_step (by assumption) ?_ ?_ | omega | (simp; done) | (simp; omega)))
  · obtain ⟨p, hp⟩ : ∃ p : Nat, findN (fun i => (G i).nm) key n = p := ⟨(findN (fun i => (G i).nm) key n).toNat, by omega⟩
    have hpn : p < n := by omega
    have He := Lib.hid (show ofR G L T n key = ofL (likeB G L T p) n by unfold ofR; rw [if_neg hneg, hp]; rfl)
    have Hp := Lib.hid hp
    clear hneg hbd hp
    go_enter Try.func15, Try.ntmps15
    go_wp2_with fail
    (go_at_call 20; refine (find_any _ _ _ _ key _ (HG.out.mono (by (repeat' (first | with_reducible exact Below.refl _ _ | with_reducible assumption | with_reducible refine Below.drew ?_ | with_reducible refine below_drewN' ?_ _ | with_reducible refine Below.alloc ?_ ?_ _ | with_reducible refine Below.setCell ?_ ?_ _ | with_reducible refine below_step (by assumption) ?_ ?_ | omega | (simp; done) | (simp; omega))))) hn).mono ?_; rintro e w4 ⟨rfl, hb4⟩; rw [Hp.out])
    obtain ⟨hc4, hf4⟩ := bcell hb4
    have hz4 := hb4.size
    (try simp at hz4)
    go_wp2
    go_loopw [6, 7] (fun v i wr => ∃ k : Nat, k ≤ n ∧ i = .int .i64 k ∧ wr.ownsRow w.heap.size 3 1 v (ofL (likeB G L T p) k).length ((ofL (likeB G L T p) k).flatMap ics) ∧ Below w.heap.size w wr) (fun _ i _ => n - (intOf i).toNat)
    case atStart => exact ⟨0, by omega, rfl, World.ownsRow_nil _ _ _ _, by (repeat' (first | with_reducible exact Below.refl _ _ | with_reducible assumption | with_reducible refine Below.drew ?_ | with_reducible refine below_drewN' ?_ _ | with_reducible refine Below.alloc ?_ ?_ _ | with_reducible refine Below.setCell ?_ ?_ _ | with_reducible refine below_step (by assumption) ?_ ?_ | omega | (simp; done) | (simp; omega)))⟩
    case round =>
      obtain ⟨k, hk, rfl, hown, hB⟩ := hrel
      obtain ⟨hcB, hfB⟩ := bcell hB
      have hbz := hB.size
      have Hown := Lib.hid hown
      have HB := Lib.hid hB
      clear hown
      by_cases hlt : k < n
      · obtain ⟨b2, off, rfl, hb2, hc2⟩ := HG.out (by omega)
        have hbw2 : b2 < wr.heap.size := by omega
        obtain ⟨c0, c1, c2, c3, c4, c5, c6, c7, c8, c9, c10, c11, c12, c13, c14⟩ := grp_cells (hc2 k hlt)
        obtain ⟨d0, d1, d2, d3, d4, d5, d6, d7, d8, d9, d10, d11, d12, d13, d14⟩ := grp_cells (hc2 p hpn)
        clear hc2
        cases hv : likeB G L T p k
        · have Hv := Lib.hid (show alikeB (G k) (G p) (L k) (L p) (T k) (T p) = false from hv)
          have Hs := Lib.hid (ofL_no (likeB G L T p) k hv)
          clear hv
          go_wp2
          have hcH := held_cell
          refine region_rel (by kernel_rfl) (by kernel_rfl) ?_
          repeat
            ((with_reducible refine relStep (fun K hK => ?_))
             (have HK := Lib.hid hK)
             clear hK
             (first
               | (apply relInl
                  · intro r n hf
                    have Hf := Lib.hid hf
                    clear hf
                    unfold relAt
                    go_simp
                    (first | (refine relUpon_val ?_ (Below.refl _ _); exact rfl) | exact rfl | (refine relUpon_enter ?_; (go_at_call 13; (with_reducible refine (refalike_lit (G k) (G p) (L k) (L p) (T k) (T p) _ ((HA.out k hlt).mono (by (have hnb := n.below); (repeat' (first | with_reducible exact Below.refl _ _ | with_reducible assumption | with_reducible refine Below.drew ?_ | with_reducible refine below_drewN' ?_ _ | with_reducible refine Below.alloc ?_ ?_ _ | with_reducible refine Below.setCell ?_ ?_ _ | with_reducible refine below_step (by assumption) ?_ ?_ | omega | (simp; done) | (simp; omega))))) ((HA.out p hpn).mono (by (have hnb := n.below); (repeat' (first | with_reducible exact Below.refl _ _ | with_reducible assumption | with_reducible refine Below.drew ?_ | with_reducible refine below_drewN' ?_ _ | with_reducible refine Below.alloc ?_ ?_ _ | with_reducible refine Below.setCell ?_ ?_ _ | with_reducible refine below_step (by assumption) ?_ ?_ | omega | (simp; done) | (simp; omega)))))).mono ?_); rintro e w1 ⟨rfl, hb⟩; rw [Hv.out]; exact ⟨⟨_, rfl, rfl⟩, hb⟩)))
                  (simp only [Act.put, List.setIfInBounds_toArray, List.set_cons_zero, List.set_cons_succ])
                  (with_reducible refine HK.out _ _ ?_)
                  clear HK K)
               | (fail)))
          refine relNil ?_
          intro r5 n5 hx5
          clear hcH
          (try simp only [List.nil_append, List.cons_append, List.mem_cons, List.not_mem_nil, or_false, forall_eq_or_imp, forall_eq, false_implies, implies_true] at hx5)
          obtain ⟨w5, hb5⟩ := n5
          (try dsimp only)
          obtain ⟨hc5, hf5⟩ := bcell hb5
          have hz5 := hb5.size
          (try simp at hz5)
          go_wp2
          go_roundw
          case rel => exact ⟨k + 1, by omega, by go_num, by rw [Hs.out]; exact own_kept Hown.out hb5, by (repeat' (first | with_reducible exact Below.refl _ _ | with_reducible assumption | with_reducible refine Below.drew ?_ | with_reducible refine below_drewN' ?_ _ | with_reducible refine Below.alloc ?_ ?_ _ | with_reducible refine Below.setCell ?_ ?_ _ | with_reducible refine below_step (by assumption) ?_ ?_ | omega | (simp; done) | (simp; omega)))⟩
          case measure => simp [intOf]; omega
        · have Hv := Lib.hid (show alikeB (G k) (G p) (L k) (L p) (T k) (T p) = true from hv)
          have Hs := Lib.hid (ofL_yes (likeB G L T p) k hv)
          clear hv
          have hL := ofL_len (likeB G L T p) k
          have hc3 : (ofL (likeB G L T p) k).length + 1 ≤ maxLen := by unfold maxLen; omega
          have hc4 : ((ofL (likeB G L T p) k).length + 1) * 8 ≤ 140737488355328 := by omega
          have Hrow := Lib.hid (show (ofL (likeB G L T p) k).flatMap ics ++ ics k = (ofL (likeB G L T p) (k + 1)).flatMap ics by rw [Hs.out]; simp)
          have Hlen := Lib.hid (show (ofL (likeB G L T p) k).length + 1 = (ofL (likeB G L T p) (k + 1)).length by rw [Hs.out]; simp)
          clear hL
          go_wp2
          have hcH := held_cell
          refine region_rel (by kernel_rfl) (by kernel_rfl) ?_
          repeat
            ((with_reducible refine relStep (fun K hK => ?_))
             (have HK := Lib.hid hK)
             clear hK
             (first
               | (apply relInl
                  · intro r n hf
                    have Hf := Lib.hid hf
                    clear hf
                    unfold relAt
                    go_simp
                    (first | (refine relUpon_val ?_ (Below.refl _ _); exact rfl) | exact rfl | (refine relUpon_enter ?_; (go_at_call 13; (with_reducible refine (refalike_lit (G k) (G p) (L k) (L p) (T k) (T p) _ ((HA.out k hlt).mono (by (have hnb := n.below); (repeat' (first | with_reducible exact Below.refl _ _ | with_reducible assumption | with_reducible refine Below.drew ?_ | with_reducible refine below_drewN' ?_ _ | with_reducible refine Below.alloc ?_ ?_ _ | with_reducible refine Below.setCell ?_ ?_ _ | with_reducible refine below_step (by assumption) ?_ ?_ | omega | (simp; done) | (simp; omega))))) ((HA.out p hpn).mono (by (have hnb := n.below); (repeat' (first | with_reducible exact Below.refl _ _ | with_reducible assumption | with_reducible refine Below.drew ?_ | with_reducible refine below_drewN' ?_ _ | with_reducible refine Below.alloc ?_ ?_ _ | with_reducible refine Below.setCell ?_ ?_ _ | with_reducible refine below_step (by assumption) ?_ ?_ | omega | (simp; done) | (simp; omega)))))).mono ?_); rintro e w1 ⟨rfl, hb⟩; rw [Hv.out]; exact ⟨⟨_, rfl, rfl⟩, hb⟩)))
                  (simp only [Act.put, List.setIfInBounds_toArray, List.set_cons_zero, List.set_cons_succ])
                  (with_reducible refine HK.out _ _ ?_)
                  clear HK K)
               | (fail)))
          refine relNil ?_
          intro r5 n5 hx5
          clear hcH
          (try simp only [List.nil_append, List.cons_append, List.mem_cons, List.not_mem_nil, or_false, forall_eq_or_imp, forall_eq, false_implies, implies_true] at hx5)
          obtain ⟨w5, hb5⟩ := n5
          (try dsimp only)
          obtain ⟨hc5, hf5⟩ := bcell hb5
          have hz5 := hb5.size
          (try simp at hz5)
          have HO5 := Lib.hid (own_kept Hown.out hb5)
          have HB5 := Lib.hid (show Below w.heap.size w w5 by (repeat' (first | with_reducible exact Below.refl _ _ | with_reducible assumption | with_reducible refine Below.drew ?_ | with_reducible refine below_drewN' ?_ _ | with_reducible refine Below.alloc ?_ ?_ _ | with_reducible refine Below.setCell ?_ ?_ _ | with_reducible refine below_step (by assumption) ?_ ?_ | omega | (simp; done) | (simp; omega))))
          have hw5 : w.heap.size ≤ w5.heap.size := by omega
  
          go_wp2_with (first | (at_builtin; refine wpList_append_own _ rfl (.tmp 30) (.tmp 32) 25 rfl w.heap.size 3 i0 _ 1 8 Try.underlying25 Hi.out Hz0.out Hz1.out Hz2.out rfl (by decide) _ (ofL (likeB G L T p) k).length ((ofL (likeB G L T p) k).flatMap ics) rfl (HO5.out.alloc _) ⟨w5.heap.size, 0, none⟩ 1 1 (ics k) rfl rfl (news_at _ _ _) (ics_one _) hc3 hc4 (le_alloc hw5 _) ?_; intro v1 w1 hown1 hgrow1 _; rw [Hrow.out, Hlen.out] at hown1; have hB1 := own_below (HO5.out.alloc _) (HB5.out.alloc hw5 _) (le_alloc hw5 _) hgrow1; have HO1 := Lib.hid hown1; clear hown1 hgrow1))
          go_roundw
          case rel => exact ⟨k + 1, by omega, by go_num, HO1.out, hB1⟩
          case measure => simp [intOf]; omega
      · obtain rfl : k = n := by omega
        have HP := Lib.hid (show ∀ v, wr.ownsRow w.heap.size 3 1 v (ofL (likeB G L T p) k).length ((ofL (likeB G L T p) k).flatMap ics) → OfPost w (ofR G L T k key) (.returned v) wr from fun v h => OfPost.mk He.out h HB.out)
        go_wp2
        refine bodyPost_ret (by simp [results, Try.results15, go_sem]) rfl (HP.out _ Hown.out)
end Go.Proofs.Ytlgbbfaeclaghaa
