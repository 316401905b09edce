/-
  rightTree at any tree.
-/
import Derived.Test.YtlndfognkkobaaaTrD
import Derived.Deep.Cut
namespace Go.Proofs.Ytlndfognkkobaaa
open Go.RowKit
set_option linter.unusedVariables false
set_option linter.unusedSimpArgs false

/-- What rightTree says of a tree within a list. -/
def RtAt (n : Nat) : Prop := ∀ (a : Option Addr) (ka : Nat) (l P : List Nd) (x : Nd) (k : Fo) (rest : List Nd) (d : Nat) (w : World), k.flat.length < n → NdL w a l → l.length ≤ 100000 → (∀ y ∈ l, y.tx.size ≤ 30000) → l = P ++ ((Fo.cons x k .nil).flat ++ rest) → (Fo.cons x k .nil).Wf → d ≤ 21 →
  Calls Try.prog 24 #[.slice a l.length ka, .int .i64 (P.length : Int), .int .i64 (d : Int)] w fun e w' => e = .returned (.bool (rightT d x (rightF (d + 1) k))) ∧ Below w.heap.size w w'
/-- The kids, one after the other. -/
theorem kids_right (n : Nat) (hn : RtAt n) (a : Option Addr) (ka : Nat) (l P : List Nd) (f : Fo) (rest : List Nd) (d : Nat) (c0 : Bool) (w0 : World) (B X3 X5 X8 : Nat) (V : World) (hk : f.flat.length ≤ n) (hl : l.length ≤ 100000) (ht : ∀ y ∈ l, y.tx.size ≤ 30000) (h : l = P ++ (f.flat ++ rest)) (hw : f.Wf) (hF : NdL w0 a l) (hB : B = w0.heap.size) (hd : d ≤ 21) (h0 : c0 = true → d ≤ 20) (hC : CP w0 B X3 X5 X8 (.slice a l.length ka) d c0 V) :
    Calls Try.prog 22 #[.slice a l.length ka, .int .i64 (P.length : Int), .int .i64 ((P.length + f.flat.length : Nat) : Int), .func (.func 38) #[] #[.pointer (some ⟨X8, 0, none⟩), .pointer (some ⟨X3, 0, none⟩), .pointer (some ⟨X5, 0, none⟩)]] V fun e w' => e = .returned (.bool true) ∧ CP w0 B X3 X5 X8 (.slice a l.length ka) d (c0 && rightF (d + 1) f) w' := by
  have hlen : l.length = P.length + f.flat.length + rest.length := by rw [h, List.length_append, List.length_append]; omega
  refine (each_any a ka l 38 #[.pointer (some ⟨X8, 0, none⟩), .pointer (some ⟨X3, 0, none⟩), .pointer (some ⟨X5, 0, none⟩)] (fun g w' => g.flat.length ≤ f.flat.length ∧ ∃ c, CP w0 B X3 X5 X8 (.slice a l.length ka) d c w' ∧ (c = true → d ≤ 20) ∧ (c && rightF (d + 1) g) = (c0 && rightF (d + 1) f)) P f rest (P.length + f.flat.length) V (by omega) h hw (.inl rfl) (by omega) ?_ ?_ ?_ ?_ ?_).mono ?_
  · rintro g w' ⟨_, c, hk, _⟩
    exact hF.mono (hB ▸ hk.f)
  · rintro g w' w'' ⟨hg, c, hk, e⟩ hb
    exact ⟨hg, c, hk.below hb, e⟩
  · rintro x k r Q w' e1 hw2 ⟨hg, c, hk2, hc, e2⟩
    have hfl : (Fo.cons x k r).flat.length = 1 + k.flat.length + r.flat.length := by
      show (x :: (k.flat ++ r.flat)).length = _
      rw [List.length_cons, List.length_append]
      omega
    rw [hfl] at hg
    have e3 : l = Q ++ ((Fo.cons x k .nil).flat ++ (r.flat ++ rest)) := by
      rw [e1]
      show Q ++ (x :: (k.flat ++ r.flat) ++ rest) = Q ++ (x :: (k.flat ++ []) ++ (r.flat ++ rest))
      simp only [List.append_nil, List.cons_append, List.append_assoc]
    refine (rt1_any w0 B X3 X5 X8 d (.slice a l.length ka) c Q.length (rightT (d + 1) x (rightF (d + 1 + 1) k)) w' hk2 hc fun hd20 V hV => ?_).mono ?_
    · have h9 := hn a ka l Q x k (r.flat ++ rest) (d + 1) V (by omega) ((hF.mono (hB ▸ hk2.f)).mono hV) hl ht e3 ⟨hw2.1, hw2.2.1, trivial⟩ (by omega)
      rw [show ((d + 1 : Nat) : Int) = (d : Int) + 1 by omega] at h9
      exact h9
    · rintro e w'' ⟨rfl, hk3⟩
      refine ⟨rfl, by omega, _, hk3, fun hcc => hc (by cases c; cases hcc; rfl), ?_⟩
      rw [← e2]
      show (c && _ && _) = (c && (_ && _))
      rw [Bool.and_assoc]
  · exact enters_of Try.func38 (by kernel_rfl) rfl
  · exact ⟨Nat.le_refl _, c0, hC, h0, rfl⟩
  · rintro e w' ⟨rfl, _, c, hk2, _, e2⟩
    refine ⟨by rw [decide_eq_true rfl], ?_⟩
    have e2 : (c && true) = (c0 && rightF (d + 1) f) := e2
    rw [Bool.and_true] at e2
    rw [← e2]
    exact hk2
theorem CP.start (w : World) (s : Value) (d : Nat) (cs : List Value) (c : Bool) : CP w w.heap.size w.heap.size (w.heap.size + 1) (w.heap.size + 1 + 1 + 1) s d c ((((w.alloc (.cells #[s] 22)).alloc (.cells #[.int .i64 (d : Int)] 3)).alloc (.cells cs.toArray 40)).alloc (.cells #[.bool c] 4)) := by
  have z : ∀ (V : World) (o : Obj), (V.alloc o).heap.size = V.heap.size + 1 := fun V o => by simp
  obtain ⟨w1, h1⟩ : ∃ w1, w.alloc (.cells #[s] 22) = w1 := ⟨_, rfl⟩
  obtain ⟨w2, h2⟩ : ∃ w2, w1.alloc (.cells #[.int .i64 (d : Int)] 3) = w2 := ⟨_, rfl⟩
  obtain ⟨w3, h3⟩ : ∃ w3, w2.alloc (.cells cs.toArray 40) = w3 := ⟨_, rfl⟩
  rw [h1, h2, h3]
  have z1 : w1.heap.size = w.heap.size + 1 := by rw [← h1]; exact z _ _
  have z2 : w2.heap.size = w.heap.size + 1 + 1 := by rw [← h2, z, z1]
  have z3 : w3.heap.size = w.heap.size + 1 + 1 + 1 := by rw [← h3, z, z2]
  have b1 : Blk w1 w.heap.size 22 [s] := by rw [← h1]; exact Blk.new w _ [s]
  have b2 : Blk w2 (w.heap.size + 1) 3 [.int .i64 (d : Int)] := by rw [← h2, ← z1]; exact Blk.new w1 _ [.int .i64 (d : Int)]
  have b1' : Blk w2 w.heap.size 22 [s] := by rw [← h2]; exact b1.alloc _
  have b8 : Blk (w3.alloc (.cells #[.bool c] 4)) (w.heap.size + 1 + 1 + 1) 4 [.bool c] := by rw [← z3]; exact Blk.new w3 _ [.bool c]
  have f3 : Below w.heap.size w w3 := by
    rw [← h3, ← h2, ← h1]
    exact (((Below.refl _ w).alloc (Nat.le_refl _) _).alloc (by rw [h1, z1]; omega) _).alloc (by rw [h1, h2, z2]; omega) _
  exact ⟨b8, by rw [← h3]; exact (b1'.alloc _).alloc _, by rw [← h3]; exact (b2.alloc _).alloc _, by omega, by omega, by omega, f3.alloc (by omega) _, by rw [z]; omega⟩
set_option maxRecDepth 100000 in
set_option maxHeartbeats 4000000 in
theorem rtree_any : ∀ n : Nat, RtAt n := by
  intro n
  induction n with
  | zero => intro a ka l P x k rest d w h; exact absurd h (Nat.not_lt_zero _)
  | succ n ih =>
    intro a ka l P x k rest d w hk hF hl ht h hw hd
    have he := end_tree (rest := rest) h hw
    have h2 : l = (P ++ [x]) ++ (k.flat ++ rest) := by
      rw [h]
      show P ++ (x :: (k.flat ++ []) ++ rest) = _
      simp only [List.append_nil, List.cons_append, List.append_assoc, List.nil_append]
    have hlen : l.length = P.length + (1 + k.flat.length) + rest.length := by
      rw [h2, List.length_append, List.length_append, List.length_append, List.length_singleton]
      omega
    have hP1 : (P ++ [x]).length = P.length + 1 := by rw [List.length_append]; rfl
    have hx : l[P.length]? = some x := by
      rw [h]
      simp [Fo.flat]
    have htx := ht x (List.mem_of_getElem? hx)
    have HK := Lib.hid (fun (c0 : Bool) (X3 X5 X8 : Nat) (V : World) (h0 : c0 = true → d ≤ 20) (hC : CP w w.heap.size X3 X5 X8 (.slice a l.length ka) d c0 V) => kids_right n ih a ka l (P ++ [x]) k rest d c0 w w.heap.size X3 X5 X8 V (by omega) hl ht h2 hw.2.1 hF rfl hd h0 hC)
    rw [hP1] at HK
    obtain ⟨b, o, rfl, hb, hc⟩ := hF (by omega)
    obtain ⟨g0, g1, g2, g3⟩ := nd_cells (hc P.length x hx)
    obtain ⟨p, hp⟩ : ∃ p, P.length = p := ⟨_, rfl⟩
    rw [hp] at he HK hlen g0 g1 g2 g3 ⊢
    obtain ⟨st, hst⟩ : ∃ st, p + (1 + k.flat.length) = st := ⟨_, rfl⟩
    rw [show p + 1 + k.flat.length = st by omega] at HK
    rw [hst] at he hlen
    have HE := Lib.hid (show ∀ V : World, NdL V (some ⟨b, o, none⟩) l → Calls Try.prog 13 #[.slice (some ⟨b, o, none⟩) l.length ka, .int .i64 (p : Int)] V fun e w' => e = .returned (.int .i64 (st : Int)) ∧ Below V.heap.size V w' from fun V hF => by have h9 := end_any (some ⟨b, o, none⟩) ka l (p : Int) V hF (by omega); rw [he] at h9; exact h9)
    have HF := Lib.hid hF
    have HTx := Lib.hid (fun V => rtext_any x.tx htx V)
    have HWd := Lib.hid (fun V => word_any x.tx V)
    obtain ⟨R, hR⟩ : ∃ R, rightT d x (rightF (d + 1) k) = R := ⟨_, rfl⟩
    obtain ⟨K9, hK9⟩ : ∃ K9, rightF (d + 1) k = K9 := ⟨_, rfl⟩
    rw [hK9] at HK hR
    have HR := Lib.hid hR
    rw [show rightT d x (rightF (d + 1) k) = R by rw [hK9]; exact hR]
    have hpl : p < l.length := by omega
    obtain ⟨kd, tx, ki, po⟩ := x
    dsimp only at g0 g1 g2 g3 HTx HWd
    clear he h h2 hlen hP1 hp hst hF hw hx htx hc hR hK9 ht ih hk
    by_cases p1 : po < 0
    · have hr : R = false := by rw [← HR.out]; unfold rightT; rw [if_pos p1]
      subst hr
      clear HR HK
      go_enter Try.func24, Try.ntmps24
      go_wp2
      go_ret
      exact ⟨rfl, by (repeat' (first | with_reducible exact Below.refl _ _ | with_reducible assumption | with_reducible refine Below.drew ?_ | with_reducible refine below_drewN' ?_ _ | with_reducible refine Below.alloc ?_ ?_ _ | with_reducible refine Below.setCell ?_ ?_ _ | with_reducible refine below_step (by assumption) ?_ ?_ | omega | (simp; done) | (simp; omega)))⟩
    by_cases k3 : kd = 3
    · subst k3
      have hr0 : R = (decide (ki = 0) && wordB tx) := by rw [← HR.out]; unfold rightT; rw [if_neg p1, if_pos rfl]
      by_cases z : ki = 0
      · subst z
        have hr : R = wordB tx := hr0
        rw [← hr] at HWd
        clear HR HK hr hr0 HTx HE
        go_enter Try.func24, Try.ntmps24
        go_wp2_with (go_at_call 36; (with_reducible refine (HWd.out _).mono ?_); rintro e w4 ⟨rfl, hb4⟩; have HB4 := Lib.hid hb4; clear hb4)
        go_ret
        refine ⟨rfl, ?_⟩
        have h9 := HB4.out
        exact Below.trans (b := _) (by (repeat' (first | with_reducible exact Below.refl _ _ | with_reducible assumption | with_reducible refine Below.drew ?_ | with_reducible refine below_drewN' ?_ _ | with_reducible refine Below.alloc ?_ ?_ _ | with_reducible refine Below.setCell ?_ ?_ _ | with_reducible refine below_step (by assumption) ?_ ?_ | omega | (simp; done) | (simp; omega)))) (h9.mono (by simp; omega))
      · have hr : R = false := by rw [hr0, decide_eq_false z]; rfl
        have z1 : (ki == 0) = false := by simpa using z
        subst hr
        clear HR HK HTx HE z hr0
        go_enter Try.func24, Try.ntmps24
        go_wp2
        go_ret
        exact ⟨rfl, by (repeat' (first | with_reducible exact Below.refl _ _ | with_reducible assumption | with_reducible refine Below.drew ?_ | with_reducible refine below_drewN' ?_ _ | with_reducible refine Below.alloc ?_ ?_ _ | with_reducible refine Below.setCell ?_ ?_ _ | with_reducible refine below_step (by assumption) ?_ ?_ | omega | (simp; done) | (simp; omega)))⟩
    have n3 : (kd == 3) = false := by simpa using k3
    by_cases k4 : kd = 4
    · subst k4
      have hr0 : R = (decide (ki = 0) && !oddT tx) := by rw [← HR.out]; unfold rightT; rw [if_neg p1, if_neg (by show ¬ (4 : Int) = 3; decide), if_pos rfl]
      by_cases z : ki = 0
      · subst z
        have hr : R = !oddT tx := hr0
        rw [← hr] at HTx
        clear HR HK hr hr0 HWd HE
        go_enter Try.func24, Try.ntmps24
        go_wp2_with (go_at_call 37; (with_reducible refine (HTx.out _).mono ?_); rintro e w4 ⟨rfl, hb4⟩; have HB4 := Lib.hid hb4; clear hb4)
        go_ret
        refine ⟨rfl, ?_⟩
        have h9 := HB4.out
        exact Below.trans (b := _) (by (repeat' (first | with_reducible exact Below.refl _ _ | with_reducible assumption | with_reducible refine Below.drew ?_ | with_reducible refine below_drewN' ?_ _ | with_reducible refine Below.alloc ?_ ?_ _ | with_reducible refine Below.setCell ?_ ?_ _ | with_reducible refine below_step (by assumption) ?_ ?_ | omega | (simp; done) | (simp; omega)))) (h9.mono (by simp; omega))
      · have hr : R = false := by rw [hr0, decide_eq_false z]; rfl
        have z1 : (ki == 0) = false := by simpa using z
        subst hr
        clear HR HK HWd HE z hr0
        go_enter Try.func24, Try.ntmps24
        go_wp2
        go_ret
        exact ⟨rfl, by (repeat' (first | with_reducible exact Below.refl _ _ | with_reducible assumption | with_reducible refine Below.drew ?_ | with_reducible refine below_drewN' ?_ _ | with_reducible refine Below.alloc ?_ ?_ _ | with_reducible refine Below.setCell ?_ ?_ _ | with_reducible refine below_step (by assumption) ?_ ?_ | omega | (simp; done) | (simp; omega)))⟩
    have n4 : (kd == 4) = false := by simpa using k4
    by_cases k5 : kd = 5
    · subst k5
      have hr0 : R = ((decide (tx = emp) && decide (d ≤ 20)) && K9) := by rw [← HR.out]; unfold rightT; rw [if_neg p1, if_neg (by show ¬ (5 : Int) = 3; decide), if_neg (by show ¬ (5 : Int) = 4; decide), if_pos rfl]
      clear HWd HTx HR
      by_cases ht : tx = emp
      · have ht' : tx = ⟨#[]⟩ := ht
        by_cases h20 : d ≤ 20
        · have hr : R = (true && K9) := by rw [hr0, decide_eq_true ht, decide_eq_true h20]; rfl
          have q1 : decide ((d : Int) ≤ 20) = true := decide_eq_true (by omega)
          have HKc := Lib.hid (show ∀ (X3 X5 X8 : Nat) (V : World), CP w w.heap.size X3 X5 X8 (.slice (some ⟨b, o, none⟩) l.length ka) d true V → Calls Try.prog 22 #[.slice (some ⟨b, o, none⟩) l.length ka, .int .i64 ((p : Int) + 1), .int .i64 (st : Int), .func (.func 38) #[] #[.pointer (some ⟨X8, 0, none⟩), .pointer (some ⟨X3, 0, none⟩), .pointer (some ⟨X5, 0, none⟩)]] V fun e w' => e = .returned (.bool true) ∧ CP w w.heap.size X3 X5 X8 (.slice (some ⟨b, o, none⟩) l.length ka) d (true && K9) w' from fun X3 X5 X8 V hC => HK.out true X3 X5 X8 V (fun _ => h20) hC)
          subst ht'
          have HR := Lib.hid hr
          clear hr hr0 ht HK h20
          go_enter Try.func24, Try.ntmps24
          go_upto_region 11 with (fail)
          obtain ⟨W, hW⟩ : ∃ W, W = ((((w.alloc (.cells #[.slice (some ⟨b, o, none⟩) l.length ka] 22)).alloc (.cells #[.int .i64 (d : Int)] 3)).alloc (.cells #[.int .i64 5, .string ⟨#[]⟩, .int .i64 ki, .int .i64 po] 40)).alloc (.cells #[.bool true] 4)) := ⟨_, rfl⟩
          rw [← hW]
          have hC0 : CP w w.heap.size w.heap.size (w.heap.size + 1) (w.heap.size + 1 + 1 + 1) (.slice (some ⟨b, o, none⟩) l.length ka) d true W := by rw [hW]; exact CP.start w _ d [.int .i64 5, .string ⟨#[]⟩, .int .i64 ki, .int .i64 po] true
          have HC := Lib.hid hC0
          have x3 := hC0.b3.cell 0
          have x5 := hC0.b5.cell 0
          have y3 := hC0.b3.lt
          have y5 := hC0.b5.lt
          dsimp only [List.getElem?_cons_zero] at x3 x5
          have HFW := Lib.hid (HF.out.mono hC0.f)
          clear hW hC0 g0 g1 g2 g3
          have hcH := held_cell
          refine region_rel_tail 7 (by kernel_rfl) (by kernel_rfl) (by kernel_rfl) ?_
          dsimp only [List.take, List.drop]
          repeat
            ((with_reducible refine relStep (fun K hK => ?_))
             (have HK := Lib.hid hK)
             clear hK
             (apply relInl
              · intro r n hf
                have Hf := Lib.hid hf
                clear hf
                (first
                  | (fail)
                  | (unfold relAt
                     go_simp
                     (first | (refine relUpon_val ?_ (Below.refl _ _); exact rfl) | exact rfl | (refine relUpon_enter ?_; (go_at_call 13; (with_reducible refine (HE.out _ (HFW.out.mono n.below)).mono ?_); rintro e w9 ⟨rfl, hb⟩; exact ⟨⟨_, rfl, rfl⟩, hb⟩)))))
              (simp only [Act.put, List.setIfInBounds_toArray, List.set_cons_zero, List.set_cons_succ])
              (with_reducible refine HK.out _ _ ?_)
              clear HK K))
          refine relNil ?_
          intro r5 n5 hx5
          clear hcH
          (try simp only [List.nil_append, List.cons_append, List.mem_cons, List.not_mem_nil, or_false, forall_eq_or_imp, forall_eq, false_implies, implies_true] at hx5)
          obtain ⟨w5, hb5⟩ := n5
          (try dsimp only)
          obtain ⟨hc5, hf5⟩ := bcell hb5
          have hz5 := hb5.size
          (try simp at hz5)
          go_wp2_with ((with_reducible refine (HKc.out _ _ _ _ (HC.out.below hb5)).mono ?_); rintro e w6 ⟨rfl, hC6⟩; have c8 := hC6.b8.cell 0; have l8 := hC6.b8.lt; dsimp only [List.getElem?_cons_zero] at c8; have HC6 := Lib.hid hC6; clear hC6)
          go_ret
          exact ⟨by rw [HR.out]; rfl, HC6.out.f⟩
        · have hr : R = (false && K9) := by rw [hr0, decide_eq_true ht, decide_eq_false h20]; rfl
          have q1 : decide ((d : Int) ≤ 20) = false := decide_eq_false (by omega)
          have HKc := Lib.hid (show ∀ (X3 X5 X8 : Nat) (V : World), CP w w.heap.size X3 X5 X8 (.slice (some ⟨b, o, none⟩) l.length ka) d false V → Calls Try.prog 22 #[.slice (some ⟨b, o, none⟩) l.length ka, .int .i64 ((p : Int) + 1), .int .i64 (st : Int), .func (.func 38) #[] #[.pointer (some ⟨X8, 0, none⟩), .pointer (some ⟨X3, 0, none⟩), .pointer (some ⟨X5, 0, none⟩)]] V fun e w' => e = .returned (.bool true) ∧ CP w w.heap.size X3 X5 X8 (.slice (some ⟨b, o, none⟩) l.length ka) d (false && K9) w' from fun X3 X5 X8 V hC => HK.out false X3 X5 X8 V (fun h => by cases h) hC)
          subst ht'
          have HR := Lib.hid hr
          clear hr hr0 ht HK h20
          go_enter Try.func24, Try.ntmps24
          go_upto_region 11 with (fail)
          obtain ⟨W, hW⟩ : ∃ W, W = ((((w.alloc (.cells #[.slice (some ⟨b, o, none⟩) l.length ka] 22)).alloc (.cells #[.int .i64 (d : Int)] 3)).alloc (.cells #[.int .i64 5, .string ⟨#[]⟩, .int .i64 ki, .int .i64 po] 40)).alloc (.cells #[.bool false] 4)) := ⟨_, rfl⟩
          rw [← hW]
          have hC0 : CP w w.heap.size w.heap.size (w.heap.size + 1) (w.heap.size + 1 + 1 + 1) (.slice (some ⟨b, o, none⟩) l.length ka) d false W := by rw [hW]; exact CP.start w _ d [.int .i64 5, .string ⟨#[]⟩, .int .i64 ki, .int .i64 po] false
          have HC := Lib.hid hC0
          have x3 := hC0.b3.cell 0
          have x5 := hC0.b5.cell 0
          have y3 := hC0.b3.lt
          have y5 := hC0.b5.lt
          dsimp only [List.getElem?_cons_zero] at x3 x5
          have HFW := Lib.hid (HF.out.mono hC0.f)
          clear hW hC0 g0 g1 g2 g3
          have hcH := held_cell
          refine region_rel_tail 7 (by kernel_rfl) (by kernel_rfl) (by kernel_rfl) ?_
          dsimp only [List.take, List.drop]
          repeat
            ((with_reducible refine relStep (fun K hK => ?_))
             (have HK := Lib.hid hK)
             clear hK
             (apply relInl
              · intro r n hf
                have Hf := Lib.hid hf
                clear hf
                (first
                  | (fail)
                  | (unfold relAt
                     go_simp
                     (first | (refine relUpon_val ?_ (Below.refl _ _); exact rfl) | exact rfl | (refine relUpon_enter ?_; (go_at_call 13; (with_reducible refine (HE.out _ (HFW.out.mono n.below)).mono ?_); rintro e w9 ⟨rfl, hb⟩; exact ⟨⟨_, rfl, rfl⟩, hb⟩)))))
              (simp only [Act.put, List.setIfInBounds_toArray, List.set_cons_zero, List.set_cons_succ])
              (with_reducible refine HK.out _ _ ?_)
              clear HK K))
          refine relNil ?_
          intro r5 n5 hx5
          clear hcH
          (try simp only [List.nil_append, List.cons_append, List.mem_cons, List.not_mem_nil, or_false, forall_eq_or_imp, forall_eq, false_implies, implies_true] at hx5)
          obtain ⟨w5, hb5⟩ := n5
          (try dsimp only)
          obtain ⟨hc5, hf5⟩ := bcell hb5
          have hz5 := hb5.size
          (try simp at hz5)
          go_wp2_with ((with_reducible refine (HKc.out _ _ _ _ (HC.out.below hb5)).mono ?_); rintro e w6 ⟨rfl, hC6⟩; have c8 := hC6.b8.cell 0; have l8 := hC6.b8.lt; dsimp only [List.getElem?_cons_zero] at c8; have HC6 := Lib.hid hC6; clear hC6)
          go_ret
          exact ⟨by rw [HR.out]; rfl, HC6.out.f⟩
      · have hr : R = (false && K9) := by rw [hr0, decide_eq_false ht]; rfl
        have q0 : ¬ tx.toList = [] := fun e => ht (bytes_inj (by rw [e, ByteArray.toList_eq]; rfl))
        have HKc := Lib.hid (show ∀ (X3 X5 X8 : Nat) (V : World), CP w w.heap.size X3 X5 X8 (.slice (some ⟨b, o, none⟩) l.length ka) d false V → Calls Try.prog 22 #[.slice (some ⟨b, o, none⟩) l.length ka, .int .i64 ((p : Int) + 1), .int .i64 (st : Int), .func (.func 38) #[] #[.pointer (some ⟨X8, 0, none⟩), .pointer (some ⟨X3, 0, none⟩), .pointer (some ⟨X5, 0, none⟩)]] V fun e w' => e = .returned (.bool true) ∧ CP w w.heap.size X3 X5 X8 (.slice (some ⟨b, o, none⟩) l.length ka) d (false && K9) w' from fun X3 X5 X8 V hC => HK.out false X3 X5 X8 V (fun h => by cases h) hC)
        have HR := Lib.hid hr
        clear hr hr0 ht HK
        go_enter Try.func24, Try.ntmps24
        go_upto_region 11 with (fail)
        obtain ⟨W, hW⟩ : ∃ W, W = ((((w.alloc (.cells #[.slice (some ⟨b, o, none⟩) l.length ka] 22)).alloc (.cells #[.int .i64 (d : Int)] 3)).alloc (.cells #[.int .i64 5, .string tx, .int .i64 ki, .int .i64 po] 40)).alloc (.cells #[.bool false] 4)) := ⟨_, rfl⟩
        rw [← hW]
        have hC0 : CP w w.heap.size w.heap.size (w.heap.size + 1) (w.heap.size + 1 + 1 + 1) (.slice (some ⟨b, o, none⟩) l.length ka) d false W := by rw [hW]; exact CP.start w _ d [.int .i64 5, .string tx, .int .i64 ki, .int .i64 po] false
        have HC := Lib.hid hC0
        have x3 := hC0.b3.cell 0
        have x5 := hC0.b5.cell 0
        have y3 := hC0.b3.lt
        have y5 := hC0.b5.lt
        dsimp only [List.getElem?_cons_zero] at x3 x5
        have HFW := Lib.hid (HF.out.mono hC0.f)
        clear hW hC0 g0 g1 g2 g3
        have hcH := held_cell
        refine region_rel_tail 7 (by kernel_rfl) (by kernel_rfl) (by kernel_rfl) ?_
        dsimp only [List.take, List.drop]
        repeat
          ((with_reducible refine relStep (fun K hK => ?_))
           (have HK := Lib.hid hK)
           clear hK
           (apply relInl
            · intro r n hf
              have Hf := Lib.hid hf
              clear hf
              (first
                | (fail)
                | (unfold relAt
                   go_simp
                   (first | (refine relUpon_val ?_ (Below.refl _ _); exact rfl) | exact rfl | (refine relUpon_enter ?_; (go_at_call 13; (with_reducible refine (HE.out _ (HFW.out.mono n.below)).mono ?_); rintro e w9 ⟨rfl, hb⟩; exact ⟨⟨_, rfl, rfl⟩, hb⟩)))))
            (simp only [Act.put, List.setIfInBounds_toArray, List.set_cons_zero, List.set_cons_succ])
            (with_reducible refine HK.out _ _ ?_)
            clear HK K))
        refine relNil ?_
        intro r5 n5 hx5
        clear hcH
        (try simp only [List.nil_append, List.cons_append, List.mem_cons, List.not_mem_nil, or_false, forall_eq_or_imp, forall_eq, false_implies, implies_true] at hx5)
        obtain ⟨w5, hb5⟩ := n5
        (try dsimp only)
        obtain ⟨hc5, hf5⟩ := bcell hb5
        have hz5 := hb5.size
        (try simp at hz5)
        go_wp2_with ((with_reducible refine (HKc.out _ _ _ _ (HC.out.below hb5)).mono ?_); rintro e w6 ⟨rfl, hC6⟩; have c8 := hC6.b8.cell 0; have l8 := hC6.b8.lt; dsimp only [List.getElem?_cons_zero] at c8; have HC6 := Lib.hid hC6; clear hC6)
        go_ret
        exact ⟨by rw [HR.out]; rfl, HC6.out.f⟩
    · have n5 : (kd == 5) = false := by simpa using k5
      have hr : R = false := by rw [← HR.out]; unfold rightT; rw [if_neg p1, if_neg k3, if_neg k4, if_neg k5]
      subst hr
      clear HR HK HWd HTx HE k3 k4 k5
      go_enter Try.func24, Try.ntmps24
      go_wp2
      go_ret
      exact ⟨rfl, by (repeat' (first | with_reducible exact Below.refl _ _ | with_reducible assumption | with_reducible refine Below.drew ?_ | with_reducible refine below_drewN' ?_ _ | with_reducible refine Below.alloc ?_ ?_ _ | with_reducible refine Below.setCell ?_ ?_ _ | with_reducible refine below_step (by assumption) ?_ ?_ | omega | (simp; done) | (simp; omega)))⟩
end Go.Proofs.Ytlndfognkkobaaa
