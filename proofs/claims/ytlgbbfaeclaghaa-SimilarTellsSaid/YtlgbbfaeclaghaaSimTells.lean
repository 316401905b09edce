/-
  SimilarTells: which of any right groups are alike is as the document says, both ways. For any groups and any name; no condition.
-/
import Derived.Test.YtlgbbfaeclaghaaSimR
namespace Go.Proofs.Ytlgbbfaeclaghaa
open Go.ChangeShapes Go.WideShapes Go.ChangeAt Go.RowKit
set_option linter.unusedVariables false
namespace similarTells

def labF (L : List Lab) : Nat → ByteArray × ByteArray := fun i => match L[i]? with
  | some x => (x.key, x.val)
  | none => default
def tntF (T : List Tnt) : Nat → ByteArray × ByteArray × Int := fun i => match T[i]? with
  | some x => (x.key, x.val, x.eff)
  | none => default
theorem grp_at {w : World} {g : Grp} {L : List Lab} {T : List Tnt} (h : GrpIn w g L T) (hl : lightG g L T = true) : GrpAt w g (labF L) (tntF T) := by
  unfold lightG lightM macOf at hl
  simp only [Bool.and_eq_true, decide_eq_true_eq] at hl
  obtain ⟨_, ⟨_, hlL⟩, hlT⟩ := hl
  have h1 := ((lightL_iff L).1 hlL).1
  have h2 : T.length ≤ 40 := by
    unfold lightB at hlT
    rw [Bool.and_eq_true, decide_eq_true_eq] at hlT
    exact hlT.1.2
  refine ⟨fun h0 => ?_, fun h0 => ?_, by rw [← h.ll]; omega, by rw [← h.tl]; omega⟩
  · obtain ⟨b, off, e, hb, hc⟩ := h.labs (by rw [h.ll]; exact h0)
    refine ⟨b, off, e, hb, fun i hi => ?_⟩
    obtain ⟨x, hx⟩ := mem_at (l := L) (k := i) (by rw [h.ll]; exact hi)
    obtain ⟨c0, c1⟩ := lab_cells (hc i x hx)
    unfold labF
    rw [hx]
    exact ⟨c0, c1⟩
  · obtain ⟨b, off, e, hb, hc⟩ := h.tnts (by rw [h.tl]; exact h0)
    refine ⟨b, off, e, hb, fun i hi => ?_⟩
    obtain ⟨x, hx⟩ := mem_at (l := T) (k := i) (by rw [h.tl]; exact hi)
    obtain ⟨c0, c1, c2⟩ := tnt_cells (hc i x hx)
    unfold tntF
    rw [hx]
    exact ⟨c0, c1, c2⟩

theorem eqI_same (D : Nat → Int) (n : Nat) : (decide (n = n) && eqI D D n) = true := by
  rw [decide_eq_true rfl, (eqI_iff D D n).2 fun _ _ => rfl]; rfl
theorem alike_symm (g h : Grp) (D F : Nat → ByteArray × ByteArray) (T U : Nat → ByteArray × ByteArray × Int) : alikeB h g F D U T = alikeB g h D F T U := by
  unfold alikeB
  have e1 : resB h g = resB g h := by unfold resB; exact decide_eq_decide.2 ⟨fun ⟨a, b, c, d, e⟩ => ⟨a.symm, b.symm, c.symm, d.symm, e.symm⟩, fun ⟨a, b, c, d, e⟩ => ⟨a.symm, b.symm, c.symm, d.symm, e.symm⟩⟩
  have e2 : eqT h.tl g.tl U T = eqT g.tl h.tl T U := by
    unfold eqT
    exact decide_eq_decide.2 ⟨fun ⟨a, b⟩ => ⟨a.symm, fun i hi => (b i (by omega)).symm⟩, fun ⟨a, b⟩ => ⟨a.symm, fun i hi => (b i (by omega)).symm⟩⟩
  have e3 : ∀ l m, eqL l m = eqL m l := fun l m => by
    unfold eqL
    exact decide_eq_decide.2 ⟨fun ⟨a, b⟩ => ⟨a.symm, fun i hi => (b i (by omega)).symm⟩, fun ⟨a, b⟩ => ⟨a.symm, fun i hi => (b i (by omega)).symm⟩⟩
  rw [e1, e2, e3]

set_option maxRecDepth 100000 in
set_option maxHeartbeats 4000000 in
theorem walk_no (a : Option Addr) (n k : Nat) (G : Nat → Grp) (L : Nat → List Lab) (T : Nat → List Tnt) (key : ByteArray) (w : World) (hG : GrpsAt w a n G) (hm : n ≤ maxLen) (hI : ∀ i, i < n → GrpIn w (G i) (L i) (T i)) (hL : lightGs n G L T = false) :
    Calls Try.prog 5 #[.slice a n k, .string key] w fun e w' => e = .returned (.bool true) ∧ Below w.heap.size w w' := by
  have HL := Lib.hid hL
  clear hL
  go_enter Try.func5, Try.ntmps5
  go_wp2_with (first | (go_at_call 10; (with_reducible refine (lightgs_any a n k G L T _ hG hm hI).mono ?_); rintro e w1 ⟨rfl, hb1⟩; rw [HL.out]; have hz1 := hb1.size) | (go_at_call 6; refine (known_any _).mono ?_; rintro e w1 ⟨rfl, hb1⟩; obtain ⟨hc1, hf1⟩ := bcell hb1; have hz1 := hb1.size; (try simp at hz1); (try have hza : w.heap.size < w1.heap.size := by omega); (try have hzb : w.heap.size + 1 < w1.heap.size := by omega); (try have hzc : w.heap.size + 1 + 1 < w1.heap.size := by omega); (try have hzd : w.heap.size + 1 + 1 + 1 < w1.heap.size := by omega)))
  go_ret
  exact ⟨rfl, by (repeat' (first | with_reducible exact Below.refl _ _ | with_reducible assumption | with_reducible refine Below.drew ?_ | with_reducible refine below_drewN' ?_ _ | with_reducible refine Below.alloc ?_ ?_ _ | with_reducible refine Below.setCell ?_ ?_ _ | with_reducible refine below_step (by assumption) ?_ ?_ | omega | (simp; done) | (simp; omega)))⟩

set_option maxRecDepth 100000 in
set_option maxHeartbeats 8000000 in
theorem walk_yes (a : Option Addr) (n k : Nat) (G : Nat → Grp) (L : Nat → List Lab) (T : Nat → List Tnt) (key : ByteArray) (w : World) (hG : GrpsAt w a n G) (hm : n ≤ 20) (hI : ∀ i, i < n → GrpIn w (G i) (L i) (T i)) (hL : lightGs n G L T = true) :
    Calls Try.prog 5 #[.slice a n k, .string key] w fun e w' => e = .returned (.bool true) ∧ Below w.heap.size w w' := by
  have hl : ∀ i, i < n → lightG (G i) (L i) (T i) = true := fun i hi => by
    unfold lightGs at hL
    rw [Bool.and_eq_true] at hL
    exact List.all_eq_true.1 hL.2 i (List.mem_range.2 hi)
  have HL := Lib.hid hL
  have HG := Lib.hid hG
  have HI := Lib.hid hI
  have Hl := Lib.hid hl
  have hmL : n ≤ maxLen := by unfold maxLen; omega
  clear hL hG hI hl
  by_cases hk : 300 < key.size
  all_goals
    first | skip | (have hk' : key.size ≤ 300 := by omega)
    go_enter Try.func5, Try.ntmps5
    go_wp2_with (first
      | (go_at_call 10; (with_reducible refine (lightgs_any a n k G L T _ HG.out hmL HI.out).mono ?_); rintro e w1 ⟨rfl, hb1⟩; rw [HL.out]; have hz1 := hb1.size; have HB1 := Lib.hid hb1)
      | (go_at_call 11; (with_reducible refine (rightgs_some a n k G L T _ (HG.out.mono HB1.out) hm (fun i hi => (HI.out i hi).mono HB1.out) Hl.out).mono ?_); rintro e w2 ⟨⟨b2, rfl⟩, hb2⟩; have hz2 := hb2.size; have HB2 := Lib.hid (HB1.out.trans (hb2.mono HB1.out.size)); cases b2)
      | (go_at_call 6; refine (known_any _).mono ?_; rintro e w1 ⟨rfl, hb1⟩; obtain ⟨hc1, hf1⟩ := bcell hb1; have hz1 := hb1.size; (try simp at hz1); (try have hza : w.heap.size < w1.heap.size := by omega); (try have hzb : w.heap.size + 1 < w1.heap.size := by omega); (try have hzc : w.heap.size + 1 + 1 < w1.heap.size := by omega); (try have hzd : w.heap.size + 1 + 1 + 1 < w1.heap.size := by omega)))
  all_goals
    first
      | (go_ret; exact ⟨rfl, by (repeat' (first | with_reducible exact Below.refl _ _ | with_reducible assumption | with_reducible refine Below.drew ?_ | with_reducible refine below_drewN' ?_ _ | with_reducible refine Below.alloc ?_ ?_ _ | with_reducible refine Below.setCell ?_ ?_ _ | with_reducible refine below_step (by assumption) ?_ ?_ | omega | (simp; done) | (simp; omega)))⟩)
      | skip
  have HA := Lib.hid (fun i hi => (grp_at ((HI.out i hi).mono HB2.out) (Hl.out i hi)))
  have HGV := Lib.hid (HG.out.mono HB2.out)
  have hz2w := HB2.out.size
  clear hb1 hb2 hz1 hz2 HB1 HL
  obtain ⟨V, hV⟩ : ∃ V, V = w2 := ⟨_, rfl⟩
  subst hV
  have hn6 : n ≤ 1000000 := by omega
  have Hlen := Lib.hid (show (ofR G (fun i => labF (L i)) (fun i => tntF (T i)) n key).length ≤ 1000000 by
    unfold ofR
    split
    · simp
    · exact Nat.le_trans (ofL_len _ _) hn6)
  go_loopw [5] (fun u wr => ∃ i : Nat, i ≤ n ∧ u = .int .i64 i ∧ Below V.heap.size V wr) (fun u _ => n - (intOf u).toNat)
  case atStart => exact ⟨0, Nat.zero_le _, rfl, by (repeat' (first | with_reducible exact Below.refl _ _ | with_reducible assumption | with_reducible refine Below.drew ?_ | with_reducible refine below_drewN' ?_ _ | with_reducible refine Below.alloc ?_ ?_ _ | with_reducible refine Below.setCell ?_ ?_ _ | with_reducible refine below_step (by assumption) ?_ ?_ | omega | (simp; done) | (simp; omega)))⟩
  case round =>
    obtain ⟨i, hi, rfl, hB⟩ := hrel
    have HB := Lib.hid hB
    have hbz := hB.size
    by_cases hin : i < n
    · obtain ⟨V1, hV1⟩ : ∃ V1, V1 = wr := ⟨_, rfl⟩
      subst hV1
      go_wp2
      go_loopw [6] (fun u wr => ∃ j : Nat, j ≤ n ∧ u = .int .i64 j ∧ Below V.heap.size V wr) (fun u _ => n - (intOf u).toNat)
      case atStart => exact ⟨0, Nat.zero_le _, rfl, HB.out⟩
      case round =>
        obtain ⟨j, hj, rfl, hC⟩ := hrel
        have HC := Lib.hid hC
        have hcz := hC.size
        by_cases hjn : j < n
        · have HGr := HGV.out.mono HC.out
          obtain ⟨b, off, e0, hb, hc⟩ := HGr (by omega)
          have HAi := Lib.hid ((HA.out i hin).mono HC.out)
          have HAj := Lib.hid ((HA.out j hjn).mono HC.out)
          subst e0
          obtain ⟨c0, c1, c2, c3, c4, c5, c6, c7, c8, c9, c10, c11, c12, c13, c14⟩ := grp_cells (hc i hin)
          obtain ⟨d0, d1, d2, d3, d4, d5, d6, d7, d8, d9, d10, d11, d12, d13, d14⟩ := grp_cells (hc j hjn)
          clear hc HGr
          obtain ⟨bb, hbb⟩ : ∃ bb, alikeB (G i) (G j) (labF (L i)) (labF (L j)) (tntF (T i)) (tntF (T j)) = bb := ⟨_, rfl⟩
          have Hbb := Lib.hid hbb
          have Hbc := Lib.hid ((alike_symm (G i) (G j) (labF (L i)) (labF (L j)) (tntF (T i)) (tntF (T j))).trans hbb)
          clear hbb
          go_wp2
          have hcH := held_cell
          refine region_rel (by kernel_rfl) (by kernel_rfl) ?_
          repeat
            ((with_reducible refine relStep (fun K hK => ?_))
             (have HK := Lib.hid hK)
             clear hK
             (first
               | (apply relInl
                  · intro r n hf
                    have Hf := Lib.hid hf
                    clear hf
                    unfold relAt
                    go_simp
                    (first | (refine relUpon_val ?_ (Below.refl _ _); exact rfl) | exact rfl | (refine relUpon_enter ?_; (first | (go_at_call 12; (with_reducible refine (alike_lit (G i) (G j) _ _ _ _ _ (HAi.out.mono (by (have hnb := n.below); (repeat' (first | with_reducible exact Below.refl _ _ | with_reducible assumption | with_reducible refine Below.drew ?_ | with_reducible refine below_drewN' ?_ _ | with_reducible refine Below.alloc ?_ ?_ _ | with_reducible refine Below.setCell ?_ ?_ _ | with_reducible refine below_step (by assumption) ?_ ?_ | omega | (simp; done) | (simp; omega))))) (HAj.out.mono (by (have hnb := n.below); (repeat' (first | with_reducible exact Below.refl _ _ | with_reducible assumption | with_reducible refine Below.drew ?_ | with_reducible refine below_drewN' ?_ _ | with_reducible refine Below.alloc ?_ ?_ _ | with_reducible refine Below.setCell ?_ ?_ _ | with_reducible refine below_step (by assumption) ?_ ?_ | omega | (simp; done) | (simp; omega)))))).mono ?_); rw [Hbb.out]; rintro e w1 ⟨rfl, hb⟩; exact ⟨⟨_, rfl, rfl⟩, hb⟩) | (go_at_call 12; (with_reducible refine (alike_lit (G j) (G i) _ _ _ _ _ (HAj.out.mono (by (have hnb := n.below); (repeat' (first | with_reducible exact Below.refl _ _ | with_reducible assumption | with_reducible refine Below.drew ?_ | with_reducible refine below_drewN' ?_ _ | with_reducible refine Below.alloc ?_ ?_ _ | with_reducible refine Below.setCell ?_ ?_ _ | with_reducible refine below_step (by assumption) ?_ ?_ | omega | (simp; done) | (simp; omega))))) (HAi.out.mono (by (have hnb := n.below); (repeat' (first | with_reducible exact Below.refl _ _ | with_reducible assumption | with_reducible refine Below.drew ?_ | with_reducible refine below_drewN' ?_ _ | with_reducible refine Below.alloc ?_ ?_ _ | with_reducible refine Below.setCell ?_ ?_ _ | with_reducible refine below_step (by assumption) ?_ ?_ | omega | (simp; done) | (simp; omega)))))).mono ?_); rw [Hbc.out]; rintro e w1 ⟨rfl, hb⟩; exact ⟨⟨_, rfl, rfl⟩, hb⟩) | (go_at_call 13; (with_reducible refine (refalike_lit (G i) (G j) _ _ _ _ _ (HAi.out.mono (by (have hnb := n.below); (repeat' (first | with_reducible exact Below.refl _ _ | with_reducible assumption | with_reducible refine Below.drew ?_ | with_reducible refine below_drewN' ?_ _ | with_reducible refine Below.alloc ?_ ?_ _ | with_reducible refine Below.setCell ?_ ?_ _ | with_reducible refine below_step (by assumption) ?_ ?_ | omega | (simp; done) | (simp; omega))))) (HAj.out.mono (by (have hnb := n.below); (repeat' (first | with_reducible exact Below.refl _ _ | with_reducible assumption | with_reducible refine Below.drew ?_ | with_reducible refine below_drewN' ?_ _ | with_reducible refine Below.alloc ?_ ?_ _ | with_reducible refine Below.setCell ?_ ?_ _ | with_reducible refine below_step (by assumption) ?_ ?_ | omega | (simp; done) | (simp; omega)))))).mono ?_); rw [Hbb.out]; rintro e w1 ⟨rfl, hb⟩; exact ⟨⟨_, rfl, rfl⟩, hb⟩))))
                  (simp only [Act.put, List.setIfInBounds_toArray, List.set_cons_zero, List.set_cons_succ])
                  (with_reducible refine HK.out _ _ ?_)
                  clear HK K)
               | (fail)))
          refine relNil ?_
          intro r5 n5 hx5
          clear hcH
          (try simp only [List.nil_append, List.cons_append, List.mem_cons, List.not_mem_nil, or_false, forall_eq_or_imp, forall_eq, false_implies, implies_true] at hx5)
          obtain ⟨w5, hb5⟩ := n5
          (try dsimp only)
          obtain ⟨hc5, hf5⟩ := bcell hb5
          have hz5 := hb5.size
          (try simp at hz5)
          go_wp2
          go_roundw
          case rel => exact ⟨j + 1, by omega, by go_num, HC.out.trans (by (repeat' (first | with_reducible exact Below.refl _ _ | with_reducible assumption | with_reducible refine Below.drew ?_ | with_reducible refine below_drewN' ?_ _ | with_reducible refine Below.alloc ?_ ?_ _ | with_reducible refine Below.setCell ?_ ?_ _ | with_reducible refine below_step (by assumption) ?_ ?_ | omega | (simp; done) | (simp; omega))))⟩
          case measure => simp [intOf]; omega
        · go_wp2
          go_roundw
          case rel => exact ⟨i + 1, by omega, by go_num, HC.out⟩
          case measure => simp [intOf]; omega
    · have HGr := Lib.hid (HGV.out.mono HB.out)
      have HAr := Lib.hid (fun i hi => (HA.out i hi).mono HB.out)
      have HBB := Lib.hid (HB2.out.trans (HB.out.mono hz2w))
      obtain ⟨V1, hV1⟩ : ∃ V1, V1 = wr := ⟨_, rfl⟩
      subst hV1
      go_wp2_with (first
        | (go_at_call 14; (with_reducible refine (of_any a n k G (fun i => labF (L i)) (fun i => tntF (T i)) key _ HGr.out HAr.out hn6).mono ?_); rintro e w3 ⟨v3, rfl, ⟨q3, k3, rfl, hi3⟩, hb3⟩; have HI3 := Lib.hid hi3; have HB3 := Lib.hid hb3; have hz3 := hb3.size; clear hi3)
        | (go_at_call 15; (with_reducible refine (refof_any a n k G (fun i => labF (L i)) (fun i => tntF (T i)) key _ (HGr.out.mono HB3.out) (fun i hi => (HAr.out i hi).mono HB3.out) hn6).mono ?_); rintro e w4 ⟨v4, rfl, ⟨q4, k4, rfl, hi4⟩, hb4⟩; have HI4 := Lib.hid hi4; have HB4 := Lib.hid hb4; have hz4 := hb4.size; clear hi4)
        | (go_at_call 8; (with_reducible refine (ints_any q3 q4 _ _ k3 k4 _ _ _ (HI3.out.mono HB4.out) HI4.out Hlen.out Hlen.out).mono ?_); rw [eqI_same]; rintro e w5 ⟨rfl, hb5⟩; have hz5 := hb5.size)
        | (go_at_call 6; refine (known_any _).mono ?_; rintro e w1 ⟨rfl, hb1⟩; obtain ⟨hc1, hf1⟩ := bcell hb1; have hz1 := hb1.size; (try simp at hz1); (try have hza : w.heap.size < w1.heap.size := by omega); (try have hzb : w.heap.size + 1 < w1.heap.size := by omega); (try have hzc : w.heap.size + 1 + 1 < w1.heap.size := by omega); (try have hzd : w.heap.size + 1 + 1 + 1 < w1.heap.size := by omega)))
      go_ret
      exact ⟨rfl, HBB.out.trans (by (repeat' (first | with_reducible exact Below.refl _ _ | with_reducible assumption | with_reducible refine Below.drew ?_ | with_reducible refine below_drewN' ?_ _ | with_reducible refine Below.alloc ?_ ?_ _ | with_reducible refine Below.setCell ?_ ?_ _ | with_reducible refine below_step (by assumption) ?_ ?_ | omega | (simp; done) | (simp; omega))))⟩

theorem walk {H : Type} {enc : TypeId × Value → H} {W : World} {base : Nat} {v u : Value} {d : DataW H} {p : List MemPlace}
    (hv : Value.okWide Try.prog W .any base 30 v) (h : DataW.Trod enc Try.prog W 0 (fun _ => true) true 30 v d p)
    (hu : Value.okWide Try.prog W .any base 9 u) :
    Calls Try.prog 5 #[v, u] W fun e W' => e = .returned (.bool true) ∧ Below W.heap.size W W' := by
  obtain ⟨a, n, k, G, L, T, rfl, hG, hm, hI⟩ := open_grps hv h
  obtain ⟨key, rfl⟩ := okWide_string Try.underlying9 hu
  cases hL : lightGs n G L T
  · exact walk_no a n k G L T key W hG hm hI hL
  · have h2 := hL
    unfold lightGs at h2
    rw [Bool.and_eq_true, decide_eq_true_eq] at h2
    exact walk_yes a n k G L T key W hG h2.1 hI hL

set_option maxRecDepth 100000 in
theorem lifted (os : Os) (started : os.Started) (H : Type) (enc : TypeId × Value → H) :
    ReturnsInHanded {} Try.checked os 5 .any (Rows.similarTellsSpec.pre6 enc Try.prog Try.f5 Rows.similarTellsRow.domain false) (Rows.similarTellsSpec.post enc Try.prog Try.f5 false true false false) := by
  refine returnsInHanded_of_change (C := Try.checked) Try.own started (by kernel_rfl) Try.func5
    (ChangeSpec.witness6 (enc := enc) (C := Try.checked) false ⟨#[], #[.slice none 0 0, .string ⟨#[]⟩], []⟩ 8 (by kernel_rfl) (by kernel_rfl) (by kernel_rfl) (by kernel_rfl)) ?_
  intro W base args ds gs before hval hW _ _
  have hW' := hW
  obtain ⟨p, q, hA, hV, rfl, hfz, hnd⟩ := hW
  rw [Try.params5] at hA hval
  obtain ⟨v0, v1, d0, d1, p0, p1, rfl, rfl, rfl, h0, h1⟩ := trodAll_two hA
  refine (walk (hval 0 30 v0 rfl rfl) h0 (hval 1 9 v1 rfl rfl)).mono fun e W' ⟨he, hb⟩ => ?_
  exact ⟨_, he, law_post Try.laidOut hW' rfl (by kernel_rfl) (by kernel_rfl) Try.underlying4 rfl rfl rfl hb⟩

theorem over : Rows.similarTellsRow.holds Try.pinned (OpenSpec.ofChange Rows.similarTellsSpec) :=
  OpenClaim.holds_of_wide 5 Try.f5 rfl rfl rfl rfl rfl rfl rfl ⟨rfl, rfl, rfl, rfl, rfl⟩ rfl rfl rfl rfl rfl (by kernel_rfl) Try.func5 (by kernel_rfl)
    (of_decide_eq_true (by kernel_rfl)) (by unfold Func.isWrapper; first | (rw [if_pos (by decide +kernel)]; kernel_rfl) | (rw [if_neg (by decide +kernel)]; exact ⟨rfl, rfl⟩))
    (fun os started H enc _ => lifted os started H enc)

/-- The statement. -/
theorem proved : Rows.SimilarTellsSaid := over
end similarTells
end Go.Proofs.Ytlgbbfaeclaghaa
