/-
  How many Lists stand in one another: the document's way.
-/
import Derived.Test.YtlndfognkkobaaaTsA
import Derived.Test.YtlndfognkkobaaaTrR
namespace Go.Proofs.Ytlndfognkkobaaa
open Go.RowKit
set_option linter.unusedVariables false
set_option linter.unusedSimpArgs false

def deepT (x : Nd) (k : Fo) : Nat := if x.kd = 5 then k.deep + 1 else 0
theorem deep_cons (x : Nd) (k r : Fo) : (Fo.cons x k r).deep = max (deepT x k) r.deep := rfl
theorem deep_len : ∀ (f : Fo), f.deep ≤ f.flat.length
  | .nil => Nat.le_refl _
  | .cons x k r => by
    have h1 := deep_len k
    have h2 := deep_len r
    show max (if x.kd = 5 then k.deep + 1 else 0) r.deep ≤ (x :: (k.flat ++ r.flat)).length
    rw [List.length_cons, List.length_append]
    split <;> omega
theorem flat_cons (x : Nd) (k r : Fo) : (Fo.cons x k r).flat.length = 1 + k.flat.length + r.flat.length := by
  show (x :: (k.flat ++ r.flat)).length = _
  rw [List.length_cons, List.length_append]
  omega
/-- Where a list of places goes on. -/
theorem places_step {L : List Nat} {j : Nat} {Q : List Nd} {y : Nd} {c r : Fo} (h : L.drop j = placesF Q.length (.cons y c r)) : L[j]? = some Q.length ∧ L.drop (j + 1) = placesF (Q ++ (y :: c.flat)).length r ∧ j < L.length := by
  have h : L.drop j = Q.length :: placesF (Q.length + (1 + c.flat.length)) r := h
  have h1 : L[j]? = some Q.length := by
    have := congrArg (fun x => x[0]?) h
    simp only [List.getElem?_drop, Nat.add_zero, List.getElem?_cons_zero] at this
    exact this
  refine ⟨h1, ?_, (List.getElem?_eq_some_iff.1 h1).1⟩
  rw [← List.drop_drop, h]
  show placesF _ r = _
  rw [List.length_append, List.length_cons]
  congr 1
  omega
theorem tree_step {l Q rest : List Nd} {y : Nd} {c r : Fo} (h : l = Q ++ ((Fo.cons y c r).flat ++ rest)) : l = (Q ++ (y :: c.flat)) ++ (r.flat ++ rest) ∧ l = Q ++ ((Fo.cons y c .nil).flat ++ (r.flat ++ rest)) := by
  constructor
  · rw [h]
    show Q ++ (y :: (c.flat ++ r.flat) ++ rest) = _
    simp only [List.append_assoc, List.cons_append]
  · rw [h]
    show Q ++ (y :: (c.flat ++ r.flat) ++ rest) = Q ++ (y :: (c.flat ++ []) ++ (r.flat ++ rest))
    simp only [List.append_assoc, List.cons_append, List.append_nil, List.nil_append]
theorem kids_in {l P rest : List Nd} {x : Nd} {k : Fo} (h : l = P ++ ((Fo.cons x k .nil).flat ++ rest)) : l = (P ++ [x]) ++ (k.flat ++ rest) ∧ (P ++ [x]).length = P.length + 1 ∧ l[P.length]? = some x ∧ l.length = P.length + (1 + k.flat.length) + rest.length := by
  have h2 : l = (P ++ [x]) ++ (k.flat ++ rest) := by
    rw [h]
    show P ++ (x :: (k.flat ++ []) ++ rest) = _
    simp only [List.append_nil, List.cons_append, List.append_assoc, List.nil_append]
  refine ⟨h2, by rw [List.length_append]; rfl, by rw [h2, List.append_assoc, List.getElem?_append_right (Nat.le_refl _), Nat.sub_self]; rfl, ?_⟩
  rw [h2, List.length_append, List.length_append, List.length_append, List.length_singleton]
  omega
def RdAt (n : Nat) : Prop := ∀ (a : Option Addr) (ka : Nat) (l P : List Nd) (x : Nd) (k : Fo) (rest : List Nd) (w : World), k.flat.length < n → NdL w a l → l.length ≤ 1000 → l = P ++ ((Fo.cons x k .nil).flat ++ rest) → (Fo.cons x k .nil).Wf →
  Calls Try.prog 26 #[.slice a l.length ka, .int .i64 (P.length : Int)] w fun e w' => e = .returned (.int .i64 (deepT x k : Nat)) ∧ Below w.heap.size w w'
set_option maxRecDepth 100000 in
set_option maxHeartbeats 4000000 in
theorem rdeep_any : ∀ n : Nat, RdAt n := by
  intro n
  induction n with
  | zero => intro a ka l P x k rest w h; exact absurd h (Nat.not_lt_zero _)
  | succ n ih =>
    intro a ka l P x k rest w hk hF hl h hw
    obtain ⟨h2, hP1, hx, hlen⟩ := kids_in h
    have HIH := Lib.hid (fun (Q : List Nd) (y : Nd) (c : Fo) (r' : List Nd) (V : World) (hc : c.flat.length < n) (hV : NdL V a l) (he : l = Q ++ ((Fo.cons y c .nil).flat ++ r')) (hy : (Fo.cons y c .nil).Wf) => ih a ka l Q y c r' V hc hV hl he hy)
    have HK := Lib.hid (fun V hV => rkids_yes a ka l P x k rest V hV hl h hw)
    have hkd := deep_len k
    have hkl := flat_len k
    by_cases h5 : x.kd = 5
    · have hR : deepT x k = k.deep + 1 := if_pos h5
      rw [hR]
      have HS := Lib.hid (show ∃ (g : Fo) (Q : List Nd), (0 : Nat) + g.len = k.len ∧ max 0 g.deep = k.deep ∧ l = Q ++ (g.flat ++ rest) ∧ g.Wf ∧ g.flat.length ≤ k.flat.length ∧ (placesF (P.length + 1) k).drop 0 = placesF Q.length g from ⟨k, P ++ [x], Nat.zero_add _, by omega, h2, hw.2.1, Nat.le_refl _, by rw [hP1]; rfl⟩)
      have hLl := places_len k (P.length + 1)
      obtain ⟨L, hLe⟩ : ∃ L, placesF (P.length + 1) k = L := ⟨_, rfl⟩
      rw [hLe] at HK HS hLl
      obtain ⟨p, hp⟩ : ∃ p, P.length = p := ⟨_, rfl⟩
      rw [hp] at HK hlen hx ⊢
      obtain ⟨b, o, rfl, hb, hc⟩ := hF (by omega)
      have HF := Lib.hid hF
      obtain ⟨c0, _, _, _⟩ := nd_cells (hc p x hx)
      rw [h5] at c0
      obtain ⟨m, hm⟩ : ∃ m, k.len = m := ⟨_, rfl⟩
      obtain ⟨D, hD⟩ : ∃ D, k.deep = D := ⟨_, rfl⟩
      obtain ⟨kf, hkf⟩ : ∃ kf, k.flat.length = kf := ⟨_, rfl⟩
      rw [hm] at HS hLl hkl
      rw [hD] at HS hkd ⊢
      rw [hkf] at HS hkd hkl hk hlen
      have hpl : p < l.length := by omega
      have hD9 : D ≤ 1000 := by omega
      have hm9 : m ≤ 1000 := by omega
      have HLl := Lib.hid hLl
      have HKf := Lib.hid hk
      clear h h2 hP1 hx hlen hF hw hkd hkl hLl hLe hp hc hm hD hkf ih hR hk
      go_enter Try.func26, Try.ntmps26
      go_wp2_with (go_at_call 17; (with_reducible refine (HK.out _ HF.out).mono ?_); rintro e w1 ⟨⟨v, rfl, ho⟩, hb1⟩; obtain ⟨a1, k1, rfl, _, hI⟩ := own_ints ho; rw [HLl.out]; have HI := Lib.hid hI; have HB1 := Lib.hid hb1; have HF1 := Lib.hid (HF.out.mono hb1); have hz1 := hb1.size; clear ho hb1 hI)
      go_loopw [5, 7] (fun vn vj wr => ∃ (g : Fo) (Q : List Nd) (j d : Nat), vj = .int .i64 (j : Int) ∧ vn = .int .i64 (d : Int) ∧ j + g.len = m ∧ max d g.deep = D ∧ l = Q ++ (g.flat ++ rest) ∧ g.Wf ∧ g.flat.length ≤ kf ∧ L.drop j = placesF Q.length g ∧ Below w1.heap.size w1 wr) (fun _ vj _ => m - (intOf vj).toNat)
      case atStart =>
        obtain ⟨g, Q, s1, s2, s3, s4, s5, s6⟩ := HS.out
        exact ⟨g, Q, 0, 0, rfl, rfl, s1, s2, s3, s4, s5, s6, Below.refl _ _⟩
      case round =>
        clear HS
        obtain ⟨g, Q, j, d, rfl, rfl, s1, s2, s3, s4, s5, s6, hB⟩ := hrel
        have HB := Lib.hid hB
        have hbz := hB.size
        have HB9 := Lib.hid (HB1.out.trans (hB.mono hz1))
        cases g with
        | nil =>
          have hjm : j = m := s1
          have hdD : d = D := by have s2 : max d 0 = D := s2; omega
          subst hjm
          subst hdD
          clear s1 s2 s3 s4 s5 s6 hB
          go_wp2
          refine bodyPost_ret (v := .int .i64 ((d : Int) + 1)) (by simp [results, Try.results26, go_sem]) rfl ⟨by rw [Int.natCast_add]; rfl, HB9.out⟩
        | cons y c r =>
          have t1 : j + (r.len + 1) = m := s1
          rw [flat_cons] at s5
          have t2 : max d (max (deepT y c) r.deep) = D := s2
          obtain ⟨p1, p2, p3⟩ := places_step s6
          obtain ⟨q1, q2⟩ := tree_step s3
          have Hq1 := Lib.hid q1
          have HR := Lib.hid s4.2.2
          have HP2 := Lib.hid p2
          have hkn := HKf.out
          have HC := Lib.hid (fun V hV => HIH.out Q y c _ V (by omega) hV q2 ⟨s4.1, s4.2.1, trivial⟩)
          obtain ⟨b1, o1, rfl, hb2, hc2⟩ := HI.out (by omega)
          have c1 := hc2 j _ p1 0 (by decide)
          rw [← hB.cell (p := ⟨b1, o1 + j * 1 + 0, none⟩) hb2] at c1
          dsimp only [intE, List.getElem?_cons_zero] at c1
          rw [Nat.mul_one, Nat.add_zero] at c1
          have hbw : b1 < wr.heap.size := by omega
          have hjm : j < m := by omega
          obtain ⟨t, ht⟩ : ∃ t, deepT y c = t := ⟨_, rfl⟩
          rw [ht] at HC t2
          obtain ⟨q, hq⟩ : ∃ q, Q.length = q := ⟨_, rfl⟩
          rw [hq] at c1 HC
          have HT1 := Lib.hid t1
          have HT2 := Lib.hid t2
          have HS5 := Lib.hid s5
          have ht9 : t ≤ 1000 := by omega
          have hd9 : d ≤ 1000 := by omega
          clear s1 s2 s3 s4 s6 hB p1 p2 p3 q1 q2 hc2 ht hq t1 t2 s5 hkn
          go_wp2_with (go_at_call 26; (with_reducible refine (HC.out _ (HF1.out.mono HB.out)).mono ?_); rintro e w2 ⟨rfl, hb3⟩; have HB2 := Lib.hid (HB.out.trans (hb3.mono hbz)); clear hb3)
          go_roundw
          case rel => exact ⟨r, Q ++ (y :: c.flat), j + 1, max d t, by go_num, by congr 1; omega, by have := HT1.out; omega, by have := HT2.out; omega, Hq1.out, HR.out, by have := HS5.out; omega, HP2.out, HB2.out⟩
          case measure => simp [intOf]; omega
    · have hR : deepT x k = 0 := if_neg h5
      rw [hR]
      obtain ⟨p, hp⟩ : ∃ p, P.length = p := ⟨_, rfl⟩
      rw [hp] at hlen hx ⊢
      obtain ⟨b, o, rfl, hb, hc⟩ := hF (by omega)
      obtain ⟨c0, _, _, _⟩ := nd_cells (hc p x hx)
      obtain ⟨kd, hkd9⟩ : ∃ kd, x.kd = kd := ⟨_, rfl⟩
      rw [hkd9] at c0 h5
      have n5 : (kd != 5) = true := by simpa using h5
      have hpl : p < l.length := by omega
      clear HIH HK h h2 hP1 hx hlen hF hw hkd hkl hp hc ih hR hk h5 hkd9
      go_enter Try.func26, Try.ntmps26
      go_wp2
      go_ret
      exact ⟨rfl, by (repeat' (first | with_reducible exact Below.refl _ _ | with_reducible assumption | with_reducible refine Below.drew ?_ | with_reducible refine below_drewN' ?_ _ | with_reducible refine Below.alloc ?_ ?_ _ | with_reducible refine Below.setCell ?_ ?_ _ | with_reducible refine below_step (by assumption) ?_ ?_ | omega | (simp; done) | (simp; omega)))⟩
end Go.Proofs.Ytlndfognkkobaaa
