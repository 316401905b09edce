/-
  The program's provider: New.
-/
import Derived.Test.YtcfdejlbchdciaaGreatDoorClI
import Derived.Test.YtcfdejlbchdciaaGreatDoorClG
import Derived.Test.YtcfdejlbchdciaaGreatDoorClV
import Derived.Laws.MakeOwn
import Derived.Laws.OwnMore
namespace Go.Proofs.YtcfdejlbchdciaaGreatDoor
open Go.RowKit
set_option linter.unusedVariables false
set_option linter.unusedSimpArgs false

theorem GL.nrm {G C : List Gp} (h : GL G) (e : C.map nrm = G.map nrm) : GL C := fun g hg => by
  obtain ⟨j, hj⟩ := List.mem_iff_getElem?.1 hg
  obtain ⟨g', hg', e'⟩ := nrm_at e hj
  obtain ⟨e1, e2, _⟩ := nrm_like e'
  rw [e1, e2]
  exact h g' (List.mem_of_getElem? hg')
def RG (B : Nat) (l : List Gp) (v : Value) (w : World) : Prop := ∃ C : List Gp, C.map nrm = l.map nrm ∧ w.ownsRow B 50 15 v C.length (C.flatMap grow) ∧ ∀ g ∈ C, MO w B g.like
theorem RG.stays (B : Nat) (l : List Gp) : Stays (RG B l) := fun v w w' hb ⟨C, h1, h2, h3⟩ => ⟨C, h1, own_kept h2 hb, fun g hg => (h3 g hg).kept hb⟩
def RP (B N : Nat) (v : Value) (w : World) : Prop := w.ownsRow B 74 3 v N ((List.replicate N pl0).flatMap prow)
theorem RP.stays (B N : Nat) : Stays (RP B N) := fun v w w' hb h => own_kept h hb
theorem RG.slice {B : Nat} {l : List Gp} {v : Value} {w : World} (h : RG B l v w) : ∃ a n k, v = .slice a n k := by
  obtain ⟨C, _, h, _⟩ := h
  obtain ⟨a, k, e, _⟩ := own_rows grow_len h (by decide)
  exact ⟨a, _, k, e⟩
theorem RP.slice {B N : Nat} {v : Value} {w : World} (h : RP B N v w) : ∃ a k, v = .slice a N k := by
  have h' : w.ownsRow B 74 3 v (List.replicate N pl0).length ((List.replicate N pl0).flatMap prow) := by rw [List.length_replicate]; exact h
  obtain ⟨a, k, e, _⟩ := own_rows prow_len h' (by decide)
  rw [List.length_replicate] at e
  exact ⟨a, k, e⟩
def RB (B : Nat) (l : List Gp) (N : Nat) (d : Int) (v : Value) (w : World) : Prop := ∃ vg vp, v = .agg #[.pointer none, vg, vp, .slice none 0 0, .int .i64 d, .int .i64 0, .int .i64 0] ∧ RG B l vg w ∧ RP B N vp w
theorem RB.stays (B : Nat) (l : List Gp) (N : Nat) (d : Int) : Stays (RB B l N d) := fun v w w' hb ⟨vg, vp, e, h1, h2⟩ => ⟨vg, vp, e, RG.stays B l _ _ _ hb h1, RP.stays B N _ _ _ hb h2⟩
def RX (B : Nat) (l : List Gp) (N : Nat) (d : Int) (v : Value) (w : World) : Prop := ∃ X vg vp, v = .pointer (some ⟨X, 0, none⟩) ∧ B ≤ X ∧ Blk w X 60 [.pointer none, vg, vp, .slice none 0 0, .int .i64 d, .int .i64 0, .int .i64 0] ∧ RG B l vg w ∧ RP B N vp w
theorem RX.stays (B : Nat) (l : List Gp) (N : Nat) (d : Int) : Stays (RX B l N d) := fun v w w' hb ⟨X, vg, vp, e, h, hB, h1, h2⟩ => ⟨X, vg, vp, e, h, hB.below hb, RG.stays B l _ _ _ hb h1, RP.stays B N _ _ _ hb h2⟩
theorem Tryz.info74 : (Tryz.prog.info? 74).map (fun i => (i.zero, i.size, i.bytes)) = some (some (.agg #[.int .i64 0, .int .i64 0, .bool false]), 3, 24) := by kernel_rfl
theorem made_flat {α : Type} (enc : α → List Value) (z : Array Value) (x : α) (K : Nat) (hz : z.toList = enc x) (hK : z.size = K) (h0 : 0 < K) (n : Nat) : (madeCells z (n * K)).toList = (List.replicate n x).flatMap enc := by
  have hl : (enc x).length = K := by rw [← hz, Array.length_toList, hK]
  have hlen : ((List.replicate n x).flatMap enc).length = n * K := by
    rw [List.length_flatMap, List.map_replicate, hl, List.sum_replicate_nat]
  refine List.ext_getElem? fun j => ?_
  by_cases hj : j < n * K
  · have hi : j / K < n := Nat.div_lt_of_lt_mul (by rw [Nat.mul_comm]; exact hj)
    have h2 : j % K < K := Nat.mod_lt _ h0
    have h1 : ((List.replicate n x).flatMap enc)[j]? = (enc x)[j % K]? := by
      have h3 : ∀ (m i : Nat), i < m → ∀ r, r < K → ((List.replicate m x).flatMap enc)[i * K + r]? = (enc x)[r]? := by
        intro m
        induction m with
        | zero => intro i h; omega
        | succ m ih =>
          intro i hi r hr
          rw [List.replicate_succ, List.flatMap_cons]
          cases i with
          | zero => rw [Nat.zero_mul, Nat.zero_add, List.getElem?_append_left (by omega)]
          | succ i =>
            rw [List.getElem?_append_right (by rw [hl, Nat.succ_mul]; omega), hl, Nat.succ_mul, show i * K + K + r - K = i * K + r by omega]
            exact ih i (by omega) r hr
      have h4 := h3 n (j / K) hi (j % K) h2
      rw [show j / K * K + j % K = j from by rw [Nat.mul_comm]; exact Nat.div_add_mod j K] at h4
      exact h4
    rw [h1, ← hz]
    have h5 : j % z.size < z.size := by rw [hK]; exact h2
    simp only [madeCells, Array.toList_map, Array.toList_range, List.getElem?_map, List.getElem?_range hj, Option.map_some, Array.getElem?_toList]
    rw [hK] at h5 ⊢
    simp [hK, h2]
  · rw [List.getElem?_eq_none (by rw [Array.length_toList, size_madeCells]; omega), List.getElem?_eq_none (by rw [hlen]; omega)]
theorem made_pools (N : Nat) : (madeCells (Value.agg #[.int .i64 0, .int .i64 0, .bool false]).cells (N * 3)).toList = (List.replicate N pl0).flatMap prow := made_flat prow _ pl0 3 rfl rfl (by decide) N
theorem make_pools (B N : Nat) (h : N ≤ 16) (V : World) (hB : B ≤ V.heap.size) : ∃ w' v, (Instr.makeSlice 58 (.int .i64 (N : Int)) (.int .i64 (N : Int))).run Tryz.prog V = .ok v w' ∧ RP B N v w' ∧ Below V.heap.size V w' := by
  obtain ⟨i0, hi, hz0, hz1, hz2⟩ := info_parts Tryz.info74
  obtain ⟨w', h1, h2, h3⟩ := run_makeSlice_full V B 58 74 i0 _ 3 Tryz.underlying58 hi hz0 hz1 .i64 .i64 N (by omega) (by rw [hz2]; omega) (by unfold maxLen; omega) hB
  rw [made_pools N] at h2
  exact ⟨w', _, h1, h2, (Only.refl [] V).grown h3 (fun k hk => by cases hk) |>.below (Below.refl _ _) (Nat.le_refl _) (fun k hk => by cases hk)⟩

set_option maxRecDepth 100000 in
theorem cnew_no (a : Option Addr) (l : List Gp) (ka : Nat) (d : Int) (w : World) (hF : GpL w a l) (hI : ∀ g ∈ l, MacIn w g.like) (hL : lightGs l = true) (hr : rightGs l = false) :
    Calls Tryz.prog 6 #[.slice a l.length ka, .int .i64 d] w fun e w' => e = .returned (.tuple #[.pointer none, .int .i64 12]) ∧ Below w.heap.size w w' := by
  have HR := Lib.hid (rightgs_any a l ka w hF hI hL)
  rw [hr] at HR
  clear hF hI hL hr
  go_enter Tryz.func6, Tryz.ntmps6
  go_wp2_with (go_at_call 20; (with_reducible refine HR.out.mono ?_); rintro e w1 ⟨rfl, hb1⟩)
  go_ret2
  exact ⟨rfl, hb1⟩
set_option maxRecDepth 100000 in
theorem cnew_bad (a : Option Addr) (l : List Gp) (ka : Nat) (d : Int) (w : World) (hF : GpL w a l) (hI : ∀ g ∈ l, MacIn w g.like) (hL : lightGs l = true) (hr : rightGs l = true) (hd : ¬ (1 ≤ d ∧ d ≤ 1000)) :
    Calls Tryz.prog 6 #[.slice a l.length ka, .int .i64 d] w fun e w' => e = .returned (.tuple #[.pointer none, .int .i64 1]) ∧ Below w.heap.size w w' := by
  have HR := Lib.hid (rightgs_any a l ka w hF hI hL)
  rw [hr] at HR
  clear hF hI hL hr
  by_cases h1 : d < 1
  · have k1 : decide (d < 1) = true := decide_eq_true h1
    clear hd
    go_enter Tryz.func6, Tryz.ntmps6
    go_wp2_with (go_at_call 20; (with_reducible refine HR.out.mono ?_); rintro e w1 ⟨rfl, hb1⟩)
    go_ret2
    exact ⟨rfl, hb1⟩
  · have k1 : decide (d < 1) = false := decide_eq_false h1
    have k2 : decide (1000 < d) = true := decide_eq_true (by omega)
    clear hd
    go_enter Tryz.func6, Tryz.ntmps6
    go_wp2_with (go_at_call 20; (with_reducible refine HR.out.mono ?_); rintro e w1 ⟨rfl, hb1⟩)
    go_ret2
    exact ⟨rfl, hb1⟩

set_option maxRecDepth 100000 in
set_option maxHeartbeats 8000000 in
theorem cnew_yes (a : Option Addr) (l : List Gp) (ka : Nat) (d : Int) (w : World) (hF : GpL w a l) (hI : ∀ g ∈ l, MacIn w g.like) (hL : lightGs l = true) (hr : rightGs l = true) (hd : 1 ≤ d ∧ d ≤ 1000) (hT : Tab10 w) (hgl : GL l) :
    Calls Tryz.prog 6 #[.slice a l.length ka, .int .i64 d] w fun e w' => (∃ b G gv pv lv, e = .returned (.tuple #[.pointer (some ⟨b, 0, none⟩), .int .i64 0]) ∧ CT w' w.heap.size b G (CS.new (l.map gkOf) d) gv pv lv ∧ GL G) ∧ Below w.heap.size w w' := by
  have hok := rightGs_ok hr
  have h16 : l.length ≤ 16 := by have := hok.g16; rwa [List.length_map] at this
  have HR := Lib.hid (rightgs_any a l ka w hF hI hL)
  rw [hr] at HR
  have HG := Lib.hid (fun V (hV : Below w.heap.size w V) => groups_any a ka l V (hF.mono hV) (fun g hg => (hI g hg).mono hV) hgl (by omega))
  obtain ⟨N, hN⟩ : ∃ N, l.length = N := ⟨_, rfl⟩
  have HN := Lib.hid hN
  rw [hN] at HR h16 HG ⊢
  have k1 : decide (d < 1) = false := decide_eq_false (by omega)
  have k2 : decide (1000 < d) = false := decide_eq_false (by omega)
  have Hok := Lib.hid hok
  have HT := Lib.hid hT
  have Hgl := Lib.hid hgl
  have HM := Lib.hid (fun V (hV : w.heap.size ≤ V.heap.size) => make_pools w.heap.size N h16 V hV)
  clear hF hI hL hr hN hok hT hgl
  go_enter Tryz.func6, Tryz.ntmps6
  go_wp2_with (go_at_call 20; (with_reducible refine HR.out.mono ?_); rintro e w1 ⟨rfl, hb1⟩; have HB1 := Lib.hid hb1; have hz1 := hb1.size; clear hb1)
  have hcH := held_cell
  refine region_rel (by kernel_rfl) (by kernel_rfl) ?_
  repeat
    ((with_reducible refine relStep (fun K hK => ?_))
     (have HK := Lib.hid hK)
     clear hK
     (apply relInl
      · intro r n hf
        have Hf := Lib.hid hf
        clear hf
        (first
          | (fail)
          | (unfold relAt
             go_simp
             (first | (refine relUpon_val ?_ (Below.refl _ _); exact rfl) | exact rfl | (refine relUpon_enter ?_; fail))))
      (simp only [Act.put, List.setIfInBounds_toArray, List.set_cons_zero, List.set_cons_succ])
      (with_reducible refine HK.out _ _ ?_)
      clear HK K))
  (with_reducible refine relStep (fun K hK => ?_))
  (have HK := Lib.hid hK)
  clear hK
  refine relInr (RG w.heap.size l) (RG.stays _ _) (fun r n hf => ?_) ?_
  · have Hf := Lib.hid hf
    clear hf HK K
    unfold relAt
    (skip)
    go_simp
    ((refine relUpon_enter ?_; go_at_call 21; (with_reducible refine (HG.out _ (HB1.out.trans (Below.mono n.below HB1.out.size))).mono ?_); rintro e w9 ⟨⟨v, C, rfl, h1, h2, h3⟩, hb⟩; exact ⟨⟨v, rfl, ⟨C, h1, OwnL.mono h2 (Nat.le_trans HB1.out.size n.below.size), fun g hg => (h3 g hg).less (Nat.le_trans HB1.out.size n.below.size)⟩⟩, hb⟩))
  (simp only [Act.put, List.setIfInBounds_toArray, List.set_cons_zero, List.set_cons_succ])
  (with_reducible refine HK.out _ _ ?_)
  clear HK K
  repeat
    ((with_reducible refine relStep (fun K hK => ?_))
     (have HK := Lib.hid hK)
     clear hK
     (apply relInl
      · intro r n hf
        have Hf := Lib.hid hf
        clear hf
        (first
          | (fail)
          | (unfold relAt
             go_simp
             (first | (refine relUpon_val ?_ (Below.refl _ _); exact rfl) | exact rfl | (refine relUpon_enter ?_; fail))))
      (simp only [Act.put, List.setIfInBounds_toArray, List.set_cons_zero, List.set_cons_succ])
      (with_reducible refine HK.out _ _ ?_)
      clear HK K))
  (with_reducible refine relStep (fun K hK => ?_))
  (have HK := Lib.hid hK)
  clear hK
  refine relInr (RP w.heap.size N) (RP.stays _ _) (fun r n hf => ?_) ?_
  · have Hf := Lib.hid hf
    clear hf HK K
    unfold relAt
    ((obtain ⟨wm, vm, hrun, hRP, hbm⟩ := HM.out n.w (Nat.le_trans HB1.out.size n.below.size)))
    go_simp
    ((exact relUpon_val hRP hbm))
  (simp only [Act.put, List.setIfInBounds_toArray, List.set_cons_zero, List.set_cons_succ])
  (with_reducible refine HK.out _ _ ?_)
  clear HK K
  repeat
    ((with_reducible refine relStep (fun K hK => ?_))
     (have HK := Lib.hid hK)
     clear hK
     (apply relInl
      · intro r n hf
        have Hf := Lib.hid hf
        clear hf
        (first
          | (fail)
          | (unfold relAt
             go_simp
             (first | (refine relUpon_val ?_ (Below.refl _ _); exact rfl) | exact rfl | (refine relUpon_enter ?_; fail))))
      (simp only [Act.put, List.setIfInBounds_toArray, List.set_cons_zero, List.set_cons_succ])
      (with_reducible refine HK.out _ _ ?_)
      clear HK K))
  (with_reducible refine relStep (fun K hK => ?_))
  (have HK := Lib.hid hK)
  clear hK
  refine relInr (RB w.heap.size l N d) (RB.stays _ _ _ _) (fun r n hf => ?_) ?_
  · have Hf := Lib.hid hf
    clear hf HK K
    unfold relAt
    ((have h1 := given_at Hf.out 0 rfl (by dsimp only; decide +kernel); have h4 := given_at Hf.out 1 rfl (by dsimp only; decide +kernel); (try dsimp only at h1 h4); obtain ⟨ag, ng, kg, eg⟩ := h1.slice; obtain ⟨ap, kp, ep⟩ := h4.slice; rw [eg, ep]; rw [eg] at h1; rw [ep] at h4; have H1 := Lib.hid h1; have H4 := Lib.hid h4; clear h1 h4 eg ep))
    go_simp
    ((refine relUpon_val ⟨_, _, ?_, H1.out, H4.out⟩ (Below.refl _ _); rfl))
  (simp only [Act.put, List.setIfInBounds_toArray, List.set_cons_zero, List.set_cons_succ])
  (with_reducible refine HK.out _ _ ?_)
  clear HK K
  (with_reducible refine relStep (fun K hK => ?_))
  (have HK := Lib.hid hK)
  clear hK
  refine relInr (RX w.heap.size l N d) (RX.stays _ _ _ _) (fun r n hf => ?_) ?_
  · have Hf := Lib.hid hf
    clear hf HK K
    unfold relAt
    ((have h1 := given_at Hf.out 2 rfl (by dsimp only; decide +kernel); (try dsimp only at h1); obtain ⟨vg, vp, e1, h1, h4⟩ := h1; rw [e1]; have H1 := Lib.hid h1; have H4 := Lib.hid h4; clear h1 h4 e1))
    go_simp
    ((refine relUpon_val ⟨_, vg, vp, rfl, ?_, Blk.new _ _ _, ?_, ?_⟩ ((Below.refl _ _).alloc (Nat.le_refl _) _); exact Nat.le_trans HB1.out.size n.below.size; exact RG.stays _ _ _ _ _ ((Below.refl _ _).alloc (Nat.le_refl _) _) H1.out; exact RP.stays _ _ _ _ _ ((Below.refl _ _).alloc (Nat.le_refl _) _) H4.out))
  (simp only [Act.put, List.setIfInBounds_toArray, List.set_cons_zero, List.set_cons_succ])
  (with_reducible refine HK.out _ _ ?_)
  clear HK K
  (with_reducible refine relStep (fun K hK => ?_))
  (have HK := Lib.hid hK)
  clear hK
  refine relInr (RX w.heap.size l N d) (RX.stays _ _ _ _) (fun r n hf => ?_) ?_
  · have Hf := Lib.hid hf
    clear hf HK K
    unfold relAt
    ((have h1 := given_at Hf.out 3 rfl (by dsimp only; decide +kernel); (try dsimp only at h1)))
    go_simp
    ((exact relUpon_val h1 (Below.refl _ _)))
  (simp only [Act.put, List.setIfInBounds_toArray, List.set_cons_zero, List.set_cons_succ])
  (with_reducible refine HK.out _ _ ?_)
  clear HK K
  refine relNil ?_
  intro r9 n9 hx9
  clear hcH
  (try simp only [List.nil_append, List.cons_append, List.mem_cons, List.not_mem_nil, or_false, forall_eq_or_imp, forall_eq, false_implies, implies_true] at hx9)
  obtain ⟨w9, hb9⟩ := n9
  (try dsimp only)
  obtain ⟨hc9, hf9⟩ := bcell hb9
  have hz9 := hb9.size
  (try simp at hz9)
  obtain ⟨y1, y2, y3, y4, X, vg, vp, eX, hX, hBX, hG, hP⟩ := hx9
  clear y1 y2 y3 y4
  have eX : r9 8 = _ := eX
  dsimp only at hBX hG hP
  rw [eX]
  obtain ⟨C, hC, hown, hmo⟩ := hG
  have hCl : C.length = N := by rw [nrm_len hC, HN.out]
  have HB9 := Lib.hid (HB1.out.trans (hb9.mono HB1.out.size))
  have hgk : C.map gkOf = l.map gkOf := nrm_gk hC
  have hgl := Hgl.out.nrm hC
  have hPs : (CS.at (l.map gkOf) d 0).P = List.replicate N pl0 := by
    rw [at_zero]
    show (l.map gkOf).map (fun _ => pl0) = _
    rw [List.map_const', List.length_map, HN.out]
  obtain ⟨ga, gka, hgv, -⟩ := own_rows grow_len hown (by decide)
  have HCT := Lib.hid (show CT (w9.setCell ⟨X, 0, none⟩ (.pointer (some ⟨X, 0, none⟩))) w.heap.size X C (CS.at (l.map gkOf) d 0) vg vp (.slice none 0 0) from by
    have tb := blk_ty hBX
    have D : ∀ {q : Nat} {t : TypeId}, TyAt w9 q t → t ≠ 60 → q ≠ X := fun hq ht => hq.ne tb ht
    refine ⟨hBX.set 0 _, own_same hown fun q e => Below.heap_setCell _ _ _ _ (D (own_ty hown e) (by decide)), ?_, World.ownsRow_nil _ _ _ _, fun g hg => ⟨own_same (hmo g hg).l fun q e => Below.heap_setCell _ _ _ _ (D (own_ty (hmo g hg).l e) (by decide)), own_same (hmo g hg).t fun q e => Below.heap_setCell _ _ _ _ (D (own_ty (hmo g hg).t e) (by decide))⟩, hgk, hX⟩
    rw [hPs, List.length_replicate]
    exact own_same hP fun q e => Below.heap_setCell _ _ _ _ (D (own_ty hP e) (by decide)))
  have HB := Lib.hid (HB9.out.setCell (p := ⟨X, 0, none⟩) hX (.pointer (some ⟨X, 0, none⟩)))
  have b0 := hBX.cell 0
  have b1 := hBX.cell 1
  have g0 := hBX.frozen 0
  have hXl := hBX.lt
  dsimp only [List.getElem?_cons_zero, List.getElem?_cons_succ] at b0 b1
  rw [hgv, hCl] at b1
  have hgv' : vg = .slice ga N gka := by rw [hgv, hCl]
  subst hgv'
  have HCl := Lib.hid hCl
  have Hgl' := Lib.hid hgl
  clear hBX hP hown hmo hC hCl hgk hgl hPs hgv hX hb9 hc9 hf9 hz9 HB9 HM HG HR Hgl hz1 HB1
  go_wp2
  obtain ⟨W, hW⟩ : ∃ W, W = w9.setCell ⟨X, 0, none⟩ (.pointer (some ⟨X, 0, none⟩)) := ⟨_, rfl⟩
  rw [← hW] at HCT HB ⊢
  clear hW b0 b1 g0 hXl eX
  generalize r9 (0 + 1) = q1
  generalize r9 (0 + 1 + 1 + 1 + 1) = q4
  generalize r9 (0 + 1 + 1 + 1 + 1 + 1 + 1) = q6
  generalize r9 (0 + 1 + 1 + 1 + 1 + 1 + 1 + 1) = q7
  go_loopw [7, 8, 35] (fun _ _ i wr => ∃ (k : Nat) (lv : Value), k ≤ N ∧ i = .int .i64 k ∧ CT wr w.heap.size X C (CS.at (l.map gkOf) d k) (.slice ga N gka) vp lv ∧ Below w.heap.size w wr) (fun _ _ i _ => N - (intOf i).toNat)
  case atStart => exact ⟨0, _, Nat.zero_le _, rfl, HCT.out, HB.out⟩
  case round =>
    clear HCT HB
    obtain ⟨k, lv, hk, rfl, hT, hB⟩ := hrel
    have HTr := Lib.hid hT
    have HBr := Lib.hid hB
    by_cases hlt : k < N
    · obtain ⟨g', hg'⟩ := mem_at (l := C) (k := k) (by rw [HCl.out]; exact hlt)
      obtain ⟨a', k', e', hGr⟩ := hT.groups
      injection e' with e1 e2 e3
      obtain ⟨gb, go, e4, hgb, hgc⟩ := hGr (by rw [HCl.out]; omega)
      have e5 := e1.trans e4
      subst e5
      obtain ⟨c0, c1, c2, c3, c4, c5, c6, c7, c8, c9, c10, c11, c12, c13, c14⟩ := grow_cells (hgc k g' hg')
      have hGk : (l.map gkOf)[k]? = some (gkOf g') := by
        have h9 : (C.map gkOf)[k]? = some (gkOf g') := by rw [List.getElem?_map, hg']; rfl
        rw [hT.gk] at h9
        exact h9
      obtain ⟨m0, m1, m2, m3, m4⟩ := Hok.out.gb _ (List.mem_of_getElem? hGk)
      have m0 : 0 ≤ g'.mn := m0
      have m1 : g'.mn ≤ g'.mx := m1
      have m3 : g'.mx ≤ 200 := m3
      have m4 : g'.nm.size ≤ 300 := m4
      obtain ⟨nn, hnn⟩ : ∃ nn : Nat, g'.mn = (nn : Int) := ⟨g'.mn.toNat, by omega⟩
      have hGl := Hgl'.out g' (List.mem_of_getElem? hg')
      have hkl : k < (l.map gkOf).length := lt_at hGk
      have hpk : (CS.at (l.map gkOf) d k).P[k]? = some pl0 := at_pool hkl
      have hPl : (CS.at (l.map gkOf) d k).P.length = N := by
        show ((((l.map gkOf).take k).map plN) ++ ((l.map gkOf).drop k).map fun _ => pl0).length = N
        rw [List.length_append, List.length_map, List.length_map, List.length_take, List.length_drop, List.length_map, HN.out]
        omega
      have hLl : (CS.at (l.map gkOf) d k).L.length ≤ 10000000 := by
        have h9 := insN_len ((l.map gkOf).take k) fun g hg => by
          obtain ⟨q0, q1, q2, q3, _⟩ := Hok.out.gb g (List.mem_of_mem_take hg)
          omega
        rw [List.length_take] at h9
        show (((l.map gkOf).take k).flatMap insN).length ≤ _
        omega
      have HRq := Lib.hid (fun V (hV : Below wr.heap.size wr V) => show Calls Tryz.prog 22 #[.pointer (some ⟨X, 0, none⟩), .int .i64 k, .int .i64 nn, .agg #[.string ⟨#[]⟩, .string ⟨#[]⟩, .int .i64 2, .int .i64 0, .int .i64 0]] V fun e w' => e = .returned (.tuple #[]) ∧ ∃ lv', CT w' w.heap.size X C ((CS.at (l.map gkOf) d k).req k (gkOf g') pl0 ⟨emp, emp, 2, 0, 0⟩ nn) (.slice (some ⟨gb, go, none⟩) N gka) vp lv' ∧ Only (blocksOf X vp lv) V w' ∧ NewB V.heap.size lv lv' from request_any X C (CS.at (l.map gkOf) d k) (.slice (some ⟨gb, go, none⟩) N gka) vp lv k g' pl0 ⟨emp, emp, 2, 0, 0⟩ nn 0 w V (hT.below hV) (hB.trans (hV.mono hB.size)) HT.out hg' hpk (by rw [HCl.out]; exact h16) m4 hGl.1 hGl.2 (by omega) (by decide) (by decide) hLl (by rw [hPl]; exact h16))
      have Hnx := Lib.hid (show (CS.at (l.map gkOf) d k).req k (gkOf g') pl0 ⟨emp, emp, 2, 0, 0⟩ nn = CS.at (l.map gkOf) d (k + 1) from by
        have h9 := at_next (dl := d) hGk m0
        rw [show (gkOf g').mn.toNat = nn from by show g'.mn.toNat = nn; omega] at h9
        exact h9)
      rw [hnn] at c1
      have hrow := hT.row
      have hbz := hB.size
      have hki : (k : Int) < (N : Int) := by omega
      have hk0 : (0 : Int) ≤ (k : Int) := by omega
      clear hg' hGr e1 e2 e3 e4 hgc hGk hnn hpk hPl hLl hT hB m1 m3 m4 hGl hkl
      go_wp2_with (go_at_call 22; (with_reducible refine (HRq.out _ (by (repeat' (first | with_reducible exact Below.refl _ _ | with_reducible assumption | with_reducible refine Below.drew ?_ | with_reducible refine below_drewN' ?_ _ | with_reducible refine Below.alloc ?_ ?_ _ | with_reducible refine Below.setCell ?_ ?_ _ | with_reducible refine below_step (by assumption) ?_ ?_ | omega | (simp; done) | (simp; omega))))).mono ?_); rintro e w5 ⟨rfl, lv', hT5, hO5, hN5⟩; have HT5 := Lib.hid hT5; have HO5 := Lib.hid hO5; clear hT5 hO5 hN5)
      have HB5 := Lib.hid (HO5.out.below (HBr.out.trans (((Below.refl _ wr).alloc (Nat.le_refl _) _).mono hbz)) (by simp; omega) fun z hz => (HTr.out.blocks z hz).1)
      go_roundw
      case rel => exact ⟨k + 1, lv', by omega, by go_num, Hnx.out ▸ HT5.out, HB5.out⟩
      case measure => simp [intOf]; omega
    · obtain rfl : k = N := by omega
      have hall : CS.at (l.map gkOf) d k = CS.new (l.map gkOf) d := at_all _ _ (by rw [List.length_map, HN.out]; exact Nat.le_refl _)
      rw [hall] at HTr
      clear hT hB hall
      go_wp2
      go_ret2
      exact ⟨⟨X, C, _, _, lv, rfl, HTr.out, Hgl'.out⟩, HBr.out⟩
end Go.Proofs.YtcfdejlbchdciaaGreatDoor
