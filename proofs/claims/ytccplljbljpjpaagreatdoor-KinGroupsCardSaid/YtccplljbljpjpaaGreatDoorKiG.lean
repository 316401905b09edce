/-
  Kin: lists of places in memory, further; KinGroups, walked.
-/
import Derived.Test.YtccplljbljpjpaaGreatDoorKi8
import Derived.Test.YtccplljbljpjpaaGreatDoorKiA
namespace Go.Proofs.YtccplljbljpjpaaGreatDoor
open Go.ChangeShapes Go.WideShapes Go.ChangeAt Go.RowKit
set_option linter.unusedVariables false
set_option linter.unusedSimpArgs false

theorem GrL.mono {w w' : World} {a : Option Addr} {G : List (List Int)} (h : GrL w a G) (hb : Below w.heap.size w w') : GrL w' a G := by
  obtain ⟨vs, hl, hr, hv⟩ := h
  refine ⟨vs, hl, hr.mono hb, fun i v g h1 h2 => ?_⟩
  obtain ⟨c, k, e, hk, hrow⟩ := hv i v g h1 h2
  exact ⟨c, k, e, hk, hrow.mono hb⟩
theorem GrL.at {w : World} {a : Option Addr} {G : List (List Int)} (h : GrL w a G) {k : Nat} {g : List Int} (hg : G[k]? = some g) :
    ∃ b o c kc, a = some ⟨b, o, none⟩ ∧ b < w.heap.size ∧ w.cell? ⟨b, o + k, none⟩ = some (.slice c g.length kc) ∧ g.length ≤ kc ∧ RowsAt icl 1 w c g := by
  obtain ⟨vs, hl, hr, hv⟩ := h
  have hk : k < G.length := (List.getElem?_eq_some_iff.1 hg).1
  obtain ⟨v, hvk⟩ := mem_at (l := vs) (k := k) (by omega)
  obtain ⟨b, o, rfl, hb, hc⟩ := hr (by omega)
  obtain ⟨c, kc, rfl, hkc, hrow⟩ := hv k v g hvk hg
  have h9 := hc k _ hvk 0 (by decide)
  rw [Nat.mul_one, Nat.add_zero] at h9
  exact ⟨b, o, c, kc, rfl, hb, h9, hkc, hrow⟩
set_option maxRecDepth 100000 in
set_option maxHeartbeats 16000000 in
theorem kgroupsl_any (a : Option Addr) (ka : Nat) (l : List Pd) (w : World) (hF : PodLs w a l) (hl : l.length ≤ maxLen) (hI : ∀ x ∈ l, PodAt w x) (hWT : WT w) (hT : Tab10 w) :
    Calls Tryz.prog 3 #[.slice a l.length ka] w fun e w' => e = .returned (.bool true) ∧ Below w.heap.size w w' := by
  have HKn := Lib.hid (fun V (hV : Below w.heap.size w V) => kknown_any V (hWT.mono hV hWT.sz) (hT.mono hV))
  have HLi := Lib.hid (klight_any a ka l w hF hl hI)
  obtain ⟨m, hm⟩ : ∃ m, lightK l = m := ⟨_, rfl⟩
  rw [hm] at HLi
  cases m with
  | false =>
    clear hF hI hWT hT hm hl
    generalize l.length = n at HLi ⊢
    go_enter Tryz.func3, Tryz.ntmps3
    go_wp2_with (first
      | (go_at_call 5; (with_reducible refine HLi.out.mono ?_); rintro e w1 ⟨rfl, hb⟩; have HB1 := Lib.hid hb; clear hb)
      | (go_at_call 6; (with_reducible refine (HKn.out _ HB1.out).mono ?_); rintro e w2 ⟨rfl, hb⟩; have HB2 := Lib.hid (HB1.out.trans (hb.mono HB1.out.size)); clear hb))
    go_ret
    exact ⟨rfl, HB2.out⟩
  | true =>
    unfold lightK at hm
    simp only [Bool.and_eq_true, decide_eq_true_eq, List.all_eq_true] at hm
    have hl60 := hm.1
    have hL := hm.2
    have HG1 := Lib.hid (fun V (hV : Below w.heap.size w V) => groups_any a ka l V (hF.mono hV) (by omega) (fun x hx => (hI x hx).mono hV) hL (hWT.mono hV hWT.sz) (hT.mono hV))
    have HG2 := Lib.hid (fun V (hV : Below w.heap.size w V) => rgroups_any a ka l V (hF.mono hV) (by omega) (fun x hx => (hI x hx).mono hV) hL)
    obtain ⟨⟨G, er⟩, hG⟩ : ∃ R, grpK l = R := ⟨_, rfl⟩
    rw [hG] at HG1 HG2
    have hG60 : G.length ≤ 1000000 ∧ ∀ g ∈ G, g.length ≤ 1000000 := by
      have h9 := grpK_le l
      rw [hG] at h9
      exact ⟨by have := h9.1; dsimp only at this; omega, fun g hg => by have := h9.2 g hg; omega⟩
    obtain ⟨n, hn⟩ : ∃ n, l.length = n := ⟨_, rfl⟩
    obtain ⟨m, hm2⟩ : ∃ m, G.length = m := ⟨_, rfl⟩
    have HGm := Lib.hid hm2
    have HG9 := Lib.hid hG60.2
    have hm9 := hG60.1
    unfold GivesK at HG1 HG2
    dsimp only at HG1 HG2
    rw [hm2] at hm9
    rw [hn, hm2] at HG1 HG2
    rw [hn] at HLi hl60 ⊢
    clear hF hI hL hWT hT hm hl hn hG hm2 hG60
    go_enter Tryz.func3, Tryz.ntmps3
    go_wp2_with (first
      | (go_at_call 5; (with_reducible refine HLi.out.mono ?_); rintro e w1 ⟨rfl, hb⟩; have HB1 := Lib.hid hb; clear hb)
      | (go_at_call 7; (with_reducible refine (HG1.out _ HB1.out).mono ?_); rintro e w2 ⟨⟨a2, c2, rfl, hg⟩, hb⟩; have HB2 := Lib.hid (HB1.out.trans (hb.mono HB1.out.size)); have HGa := Lib.hid hg; clear hg hb)
      | (go_at_call 8; (with_reducible refine (HG2.out _ HB2.out).mono ?_); rintro e w3 ⟨⟨a3, c3, rfl, hg⟩, hb⟩; have HB3 := Lib.hid (HB2.out.trans (hb.mono HB2.out.size)); have HGb := Lib.hid (HGa.out.mono hb); have HGc := Lib.hid hg; clear hg hb))
    clear HGa HB2 HB1
    go_loopw [7] (fun vi wr => ∃ k : Nat, k ≤ m ∧ vi = .int .i64 k ∧ Below w3.heap.size w3 wr) (fun vi _ => m - (intOf vi).toNat)
    case atStart => exact ⟨0, Nat.zero_le _, rfl, Below.refl _ _⟩
    case round =>
      obtain ⟨k, hk, rfl, hB⟩ := hrel
      have hbz := hB.size
      have HB := Lib.hid hB
      by_cases hlt : k < m
      · obtain ⟨g, hg⟩ := mem_at (l := G) (k := k) (by rw [HGm.out]; exact hlt)
        obtain ⟨b, o, c, kc, rfl, hb, c0, hkc, hrow⟩ := (HGb.out.mono hB).at hg
        obtain ⟨b2, o2, d, kd, rfl, hb2, c1, hkd, hrow2⟩ := (HGc.out.mono hB).at hg
        have hgl := HG9.out g (List.mem_of_getElem? hg)
        have HCi := Lib.hid (fun V (hV : Below wr.heap.size wr V) => (ints_any c d kc kd g g V (hrow.mono hV) (hrow2.mono hV) hgl hgl).mono (fun e w' h => by rw [decide_eq_true rfl] at h; exact h))
        obtain ⟨L, hL⟩ : ∃ L, g.length = L := ⟨_, rfl⟩
        rw [hL] at c0 c1 HCi
        clear hg hrow hrow2 hgl hL hB hkc hkd
        obtain ⟨W, hWw⟩ : ∃ V, V = wr := ⟨_, rfl⟩
        subst hWw
        go_wp2
        have hcH := held_cell
        refine region_rel (by kernel_rfl) (by kernel_rfl) ?_
        repeat
          ((with_reducible refine relStep (fun K hK => ?_))
           (have HK := Lib.hid hK)
           clear hK
           (apply relInl
            · intro r n hf
              have Hf := Lib.hid hf
              clear hf
              (first
                | (fail)
                | (unfold relAt
                   go_simp
                   (first | (refine relUpon_val ?_ (Below.refl _ _); exact rfl) | exact rfl | (refine relUpon_enter ?_; (go_at_call 9; (with_reducible refine (HCi.out _ n.below).mono ?_); rintro e w9 ⟨rfl, hb⟩; exact ⟨⟨_, rfl, rfl⟩, hb⟩)))))
            (simp only [Act.put, List.setIfInBounds_toArray, List.set_cons_zero, List.set_cons_succ])
            (with_reducible refine HK.out _ _ ?_)
            clear HK K))
        refine relNil ?_
        intro r9 n9 hx9
        clear hcH
        (try simp only [List.nil_append, List.cons_append, List.mem_cons, List.not_mem_nil, or_false, forall_eq_or_imp, forall_eq, false_implies, implies_true] at hx9)
        obtain ⟨w9, hb9⟩ := n9
        (try dsimp only)
        obtain ⟨hc9, hf9⟩ := bcell hb9
        have hz9 := hb9.size
        (try simp at hz9)
        have HB9 := Lib.hid (HB.out.trans (hb9.mono hbz))
        go_wp2
        go_roundw
        case rel => exact ⟨k + 1, by omega, by go_num, HB9.out⟩
        case measure => simp [intOf]; omega
      · obtain rfl : k = m := by omega
        have HB4 := Lib.hid (HB3.out.trans (hB.mono HB3.out.size))
        clear hB
        go_wp2_with (go_at_call 6; (with_reducible refine (HKn.out _ HB4.out).mono ?_); rintro e w9 ⟨rfl, hb⟩; have HB9 := Lib.hid (HB4.out.trans (hb.mono HB4.out.size)); clear hb)
        go_ret
        exact ⟨rfl, HB9.out⟩
end Go.Proofs.YtccplljbljpjpaaGreatDoor
