/-
  Whether nodes are right, and what is shown of them: the document's way.
-/
import Derived.Test.YtlndfognkkobaaaTsC
import Derived.Test.YtlndfognkkobaaaTrX
namespace Go.Proofs.Ytlndfognkkobaaa
open Go.RowKit
set_option linter.unusedVariables false
set_option linter.unusedSimpArgs false

theorem rightN_iff {x : Nd} {k : Fo} (hw : x.ki = k.len) : rightN x = true ↔ Fit x k ∧ 0 ≤ x.po := by
  have none : x.ki = 0 → k = .nil := fun e => by
    rw [hw] at e
    cases k with
    | nil => rfl
    | cons y a b => exact absurd e (by show ¬ ((b.len + 1 : Nat) : Int) = 0; omega)
  unfold rightN
  constructor
  · intro h
    split at h
    · rename_i h5
      rw [Bool.and_eq_true, decide_eq_true_iff, decide_eq_true_iff] at h
      exact ⟨.inl ⟨h5, h.1⟩, h.2⟩
    split at h
    · rename_i h3
      rw [Bool.and_eq_true, Bool.and_eq_true, decide_eq_true_iff, decide_eq_true_iff] at h
      exact ⟨.inr ⟨.inl ⟨h3, (wordB_iff _).1 h.1.2⟩, none h.1.1⟩, h.2⟩
    split at h
    · rename_i h4
      rw [Bool.and_eq_true, Bool.and_eq_true, decide_eq_true_iff, decide_eq_true_iff, Bool.not_eq_true'] at h
      exact ⟨.inr ⟨.inr ⟨h4, (text_iff _).1 h.1.2⟩, none h.1.1⟩, h.2⟩
    · cases h
  · rintro ⟨h1 | ⟨⟨h1, h2⟩ | ⟨h1, h2⟩, rfl⟩, hp⟩
    · rw [if_pos h1.1, h1.2, decide_eq_true hp, decide_eq_true rfl]
      rfl
    · rw [if_neg (by omega), if_pos h1, (wordB_iff _).2 h2, decide_eq_true hp, decide_eq_true (show x.ki = 0 from hw)]
      rfl
    · rw [if_neg (by omega), if_neg (by omega), if_pos h1, (text_iff _).2 h2, decide_eq_true hp, decide_eq_true (show x.ki = 0 from hw)]
      rfl
theorem good_iff : ∀ (f : Fo), f.Wf → ((∀ y ∈ f.flat, rightN y = true) ↔ f.Good ∧ f.Pos)
  | .nil, _ => ⟨fun _ => ⟨trivial, trivial⟩, fun _ y hy => by cases hy⟩
  | .cons x k r, ⟨w1, w2, w3⟩ => by
    have h1 := good_iff k w2
    have h2 := good_iff r w3
    have h0 := rightN_iff w1
    constructor
    · intro h
      have h : ∀ y ∈ x :: (k.flat ++ r.flat), rightN y = true := h
      obtain ⟨a1, a2⟩ := h0.1 (h x (List.mem_cons_self ..))
      obtain ⟨b1, b2⟩ := h1.1 fun y hy => h y (List.mem_cons_of_mem _ (List.mem_append_left _ hy))
      obtain ⟨c1, c2⟩ := h2.1 fun y hy => h y (List.mem_cons_of_mem _ (List.mem_append_right _ hy))
      exact ⟨⟨a1, b1, c1⟩, ⟨a2, b2, c2⟩⟩
    · rintro ⟨⟨a1, b1, c1⟩, ⟨a2, b2, c2⟩⟩ y hy
      have hy : y ∈ x :: (k.flat ++ r.flat) := hy
      rcases List.mem_cons.1 hy with rfl | hy
      · exact h0.2 ⟨a1, a2⟩
      rcases List.mem_append.1 hy with hy | hy
      · exact h1.2 ⟨b1, b2⟩ y hy
      · exact h2.2 ⟨c1, c2⟩ y hy
theorem check_cases (l : List Nd) (f : Fo) (rest : List Nd) : checkI l f rest = 0 ∨ checkI l f rest = 12 := by
  unfold checkI
  split
  · exact .inl rfl
  · exact .inr rfl
theorem check_iff {l : List Nd} {f : Fo} {rest : List Nd} (hw : f.Wf) (h : l = f.flat ++ rest) : checkI l f rest = 0 ↔ l.length ≤ 4000 ∧ rest = [] ∧ (∀ y ∈ l, rightN y = true) ∧ f.deep ≤ 20 := by
  constructor
  · intro hc
    obtain ⟨h1, h2, h3, h4, h5⟩ := check_good hw hc
    subst h2
    rw [List.append_nil] at h
    exact ⟨h1, rfl, by rw [h]; exact (good_iff f hw).2 ⟨h3, h4⟩, h5⟩
  · rintro ⟨h1, rfl, h3, h4⟩
    rw [List.append_nil] at h
    subst h
    obtain ⟨a, b⟩ := (good_iff f hw).1 h3
    exact check_zero a hw b h4 h1
set_option maxRecDepth 100000 in
set_option maxHeartbeats 4000000 in
theorem rcheck_any (a : Option Addr) (ka : Nat) (l : List Nd) (f : Fo) (rest : List Nd) (w : World) (hF : NdL w a l) (hl : l.length ≤ 1000) (htx : ∀ y ∈ l, y.tx.size ≤ 300) (h : l = f.flat ++ rest) (hw : f.Wf) (hr : rest = [] ∨ (rest ≠ [] ∧ fin rest 1 = none)) :
    Calls Try.prog 10 #[.slice a l.length ka] w fun e w' => e = .returned (.int .i64 (checkI l f rest)) ∧ Below w.heap.size w w' := by
  have hT := fun V hV => rtops_any a ka l f rest V hV hl h hw hr
  have hci := check_iff hw h
  have hcc := check_cases l f rest
  obtain ⟨R, hR⟩ : ∃ R, checkI l f rest = R := ⟨_, rfl⟩
  rw [hR] at hci hcc ⊢
  have hno : ∀ y ∈ l, rightN y = false → R = 12 := fun y hy hn => hcc.resolve_left fun e => by
    have := (hci.1 e).2.2.1 y hy
    rw [hn] at this
    cases this
  have HRt := Lib.hid (fun (y : Nd) (hy : y ∈ l) (V : World) => right_any y (by have := htx y hy; omega) V)
  have HD := Lib.hid (fun (Q : List Nd) (y : Nd) (c : Fo) (r' : List Nd) (V : World) (hV : NdL V a l) (he : l = Q ++ ((Fo.cons y c .nil).flat ++ r')) (hy : (Fo.cons y c .nil).Wf) => rdeep_any (c.flat.length + 1) a ka l Q y c r' V (Nat.lt_succ_self _) hV hl he hy)
  have HF := Lib.hid hF
  obtain ⟨n, hn⟩ : ∃ n, l.length = n := ⟨_, rfl⟩
  have HN := Lib.hid hn
  rcases hr with hr | ⟨hr, hr2⟩
  · subst hr
    rw [List.append_nil] at h
    rw [if_pos rfl] at hT
    have hLl := places_len f 0
    have hfl := flat_len f
    have HS := Lib.hid (show l = [] ++ (f.flat ++ []) ∧ f.Wf ∧ (placesF 0 f).drop 0 = placesF ([] : List Nd).length f from ⟨by rw [List.append_nil]; exact h, hw, rfl⟩)
    have HCi := Lib.hid (show (∀ y ∈ l, rightN y = true) → (f.deep ≤ 20 → R = 0) ∧ (¬ f.deep ≤ 20 → R = 12) from fun hall => ⟨fun hd => hci.2 ⟨by omega, rfl, hall, hd⟩, fun hd => hcc.resolve_left fun e => hd (hci.1 e).2.2.2⟩)
    have HNo := Lib.hid hno
    have hz : (n = 0 ∧ f.len = 0) ∨ (0 < n ∧ f.len ≠ 0) := by
      cases f with
      | nil => left; exact ⟨by rw [← hn, h]; rfl, rfl⟩
      | cons y c r => right; exact ⟨by rw [← hn, h, flat_cons]; omega, by show r.len + 1 ≠ 0; omega⟩
    have HTp := Lib.hid hT
    obtain ⟨L, hLe⟩ : ∃ L, placesF 0 f = L := ⟨_, rfl⟩
    rw [hLe] at HTp HS hLl
    obtain ⟨m, hm⟩ : ∃ m, f.len = m := ⟨_, rfl⟩
    rw [hm] at hLl hz hfl
    have HLl := Lib.hid hLl
    have hm9 : m ≤ 1000 := by rw [← h, hn] at hfl; omega
    have HM := Lib.hid (show f.len = m from hm)
    rw [hn] at HTp HD hl ⊢
    have k0 : decide ((4000 : Int) < (n : Int)) = false := decide_eq_false (by omega)
    rcases hz with ⟨g1, g2⟩ | ⟨g1, g2⟩
    · have k1 : ¬ 0 < n := by omega
      clear hT hci hcc hR h hw hF hfl hLl hLe hm hno htx hn g1 g2
      go_enter Try.func10, Try.ntmps10
      go_wp2_with (go_at_call 19; (with_reducible refine (HTp.out _ HF.out).mono ?_); rintro e w1 ⟨⟨v, rfl, ho⟩, hb1⟩; obtain ⟨a1, k1, rfl, _, hI⟩ := own_ints ho; rw [HLl.out]; have HI := Lib.hid hI; have HB1 := Lib.hid hb1; have HF1 := Lib.hid (HF.out.mono hb1); have hz1 := hb1.size; clear ho hb1 hI)
      go_loopw [4] (fun vi wr => ∃ i : Nat, i ≤ n ∧ vi = .int .i64 i ∧ (∀ j y, j < i → l[j]? = some y → rightN y = true) ∧ Below w1.heap.size w1 wr) (fun vi _ => n - (intOf vi).toNat)
      case atStart => exact ⟨0, Nat.zero_le _, rfl, fun j y hj _ => absurd hj (Nat.not_lt_zero j), Below.refl _ _⟩
      case round =>
        obtain ⟨i, hi, rfl, hA, hB⟩ := hrel
        have HA := Lib.hid hA
        have HB := Lib.hid hB
        have hbz := hB.size
        have HB9 := Lib.hid (HB1.out.trans (hB.mono hz1))
        by_cases hlt : i < n
        · obtain ⟨y, hy⟩ := mem_at (l := l) (k := i) (by rw [HN.out]; exact hlt)
          obtain ⟨b, o, rfl, hb, hc⟩ := (HF1.out.mono hB) (by rw [HN.out]; omega)
          obtain ⟨c0, c1, c2, c3⟩ := nd_cells (hc i y hy)
          have hym := List.mem_of_getElem? hy
          have HRy := Lib.hid (HRt.out y hym)
          cases hrn : rightN y with
          | false =>
            rw [hrn] at HRy
            have hr12 := HNo.out y hym hrn
            subst hr12
            obtain ⟨kd, tx, ki, po⟩ := y
            dsimp only at c0 c1 c2 c3 HRy
            clear hA hB hc hy hym hrn
            go_wp2_with (go_at_call 25; (with_reducible refine (HRy.out _).mono ?_); rintro e w3 ⟨rfl, hb3⟩; have HB3 := Lib.hid (HB9.out.trans (hb3.mono HB9.out.size)); clear hb3)
            refine bodyPost_ret (v := .int .i64 12) (by simp [results, Try.results10, go_sem]) rfl ⟨rfl, HB3.out⟩
          | true =>
            rw [hrn] at HRy
            have HA2 := Lib.hid (show ∀ j z, j < i + 1 → l[j]? = some z → rightN z = true from fun j z hj hz => by
              by_cases e : j = i
              · subst e
                rw [hy] at hz
                obtain rfl := Option.some.inj hz
                exact hrn
              · exact HA.out j z (by omega) hz)
            obtain ⟨kd, tx, ki, po⟩ := y
            dsimp only at c0 c1 c2 c3 HRy
            clear hA hB hc hy hym hrn
            go_wp2_with (go_at_call 25; (with_reducible refine (HRy.out _).mono ?_); rintro e w3 ⟨rfl, hb3⟩; have HB3 := Lib.hid (HB.out.trans (hb3.mono hbz)); clear hb3)
            go_roundw
            case rel => exact ⟨i + 1, by omega, by go_num, HA2.out, HB3.out⟩
            case measure => simp [intOf]; omega
        · obtain rfl : i = n := by omega
          have hall : ∀ y ∈ l, rightN y = true := fun y hy => by
            obtain ⟨j, hj, e⟩ := List.getElem_of_mem hy
            exact HA.out j y (by rw [← HN.out]; exact hj) (List.getElem?_eq_some_iff.2 ⟨hj, e⟩)
          have hce := HCi.out hall
          have HCe := Lib.hid hce
          obtain ⟨w5, h5⟩ : ∃ w5, w5 = wr := ⟨_, rfl⟩
          subst h5
          clear hA hB hall hce hlt
          go_wp2
          go_loopw [5] (fun vj wr => ∃ (g : Fo) (Q : List Nd) (j : Nat), vj = .int .i64 (j : Int) ∧ j + g.len = m ∧ l = Q ++ (g.flat ++ []) ∧ g.Wf ∧ L.drop j = placesF Q.length g ∧ (f.deep ≤ 20 ↔ g.deep ≤ 20) ∧ Below w1.heap.size w1 wr) (fun vj _ => m - (intOf vj).toNat)
          case atStart => exact ⟨f, [], 0, rfl, by rw [HM.out]; omega, HS.out.1, HS.out.2.1, HS.out.2.2, Iff.rfl, HB.out⟩
          case round =>
            clear HS HB HB9 hbz
            obtain ⟨g, Q, j, rfl, s1, s3, s4, s6, s7, hB⟩ := hrel
            have HB := Lib.hid hB
            have hbz := hB.size
            have HB9 := Lib.hid (HB1.out.trans (hB.mono hz1))
            cases g with
            | nil =>
              have hjm : j = m := s1
              obtain rfl : R = 0 := HCe.out.1 (s7.2 (Nat.zero_le _))
              subst hjm
              clear s1 s3 s4 s6 s7 hB
              go_wp2
              refine bodyPost_ret (v := .int .i64 0) (by simp [results, Try.results10, go_sem]) rfl ⟨rfl, HB9.out⟩
            | cons y c r =>
              have t1 : j + (r.len + 1) = m := s1
              obtain ⟨p1, p2, p3⟩ := places_step s6
              obtain ⟨q1, q2⟩ := tree_step s3
              have Hq1 := Lib.hid q1
              have HR := Lib.hid s4.2.2
              have HP2 := Lib.hid p2
              have HC := Lib.hid (fun V hV => HD.out Q y c _ V hV q2 ⟨s4.1, s4.2.1, trivial⟩)
              obtain ⟨b1, o1, rfl, hb2, hc2⟩ := HI.out (by omega)
              have c1 := hc2 j _ p1 0 (by decide)
              rw [← hB.cell (p := ⟨b1, o1 + j * 1 + 0, none⟩) hb2] at c1
              dsimp only [intE, List.getElem?_cons_zero] at c1
              rw [Nat.mul_one, Nat.add_zero] at c1
              have hbw : b1 < wr.heap.size := by omega
              have hjm : j < m := by omega
              have hdc : (Fo.cons y c r).deep = max (deepT y c) r.deep := rfl
              rw [hdc] at s7
              obtain ⟨t, ht⟩ : ∃ t, deepT y c = t := ⟨_, rfl⟩
              rw [ht] at HC s7
              obtain ⟨q, hq⟩ : ∃ q, Q.length = q := ⟨_, rfl⟩
              rw [hq] at c1 HC
              have HT1 := Lib.hid t1
              have HS7 := Lib.hid s7
              clear s1 s3 s4 s6 hB p1 p2 p3 q1 q2 hc2 ht hq t1 hdc
              by_cases ht20 : t ≤ 20
              · have k2 : decide ((20 : Int) < (t : Int)) = false := decide_eq_false (by omega)
                have Hnx := Lib.hid (show f.deep ≤ 20 ↔ r.deep ≤ 20 from s7.trans (by omega))
                clear s7
                go_wp2_with (go_at_call 26; (with_reducible refine (HC.out _ (HF1.out.mono HB.out)).mono ?_); rintro e w2 ⟨rfl, hb3⟩; have HB2 := Lib.hid (HB.out.trans (hb3.mono hbz)); clear hb3)
                go_roundw
                case rel => exact ⟨r, Q ++ (y :: c.flat), j + 1, by go_num, by have := HT1.out; omega, Hq1.out, HR.out, HP2.out, Hnx.out, HB2.out⟩
                case measure => simp [intOf]; omega
              · have k2 : decide ((20 : Int) < (t : Int)) = true := decide_eq_true (by omega)
                obtain rfl : R = 12 := HCe.out.2 (fun h => by have := s7.1 h; omega)
                clear s7
                go_wp2_with (go_at_call 26; (with_reducible refine (HC.out _ (HF1.out.mono HB.out)).mono ?_); rintro e w2 ⟨rfl, hb3⟩; have HB2 := Lib.hid (HB9.out.trans (hb3.mono HB9.out.size)); clear hb3)
                refine bodyPost_ret (v := .int .i64 12) (by simp [results, Try.results10, go_sem]) rfl ⟨rfl, HB2.out⟩
    · have k2 : ((m : Int) == 0) = false := by rw [beq_eq_false_iff_ne]; omega
      clear hT hci hcc hR h hw hF hfl hLl hLe hm hno htx hn g2
      go_enter Try.func10, Try.ntmps10
      go_wp2_with (go_at_call 19; (with_reducible refine (HTp.out _ HF.out).mono ?_); rintro e w1 ⟨⟨v, rfl, ho⟩, hb1⟩; obtain ⟨a1, k1, rfl, _, hI⟩ := own_ints ho; rw [HLl.out]; have HI := Lib.hid hI; have HB1 := Lib.hid hb1; have HF1 := Lib.hid (HF.out.mono hb1); have hz1 := hb1.size; clear ho hb1 hI)
      go_loopw [4] (fun vi wr => ∃ i : Nat, i ≤ n ∧ vi = .int .i64 i ∧ (∀ j y, j < i → l[j]? = some y → rightN y = true) ∧ Below w1.heap.size w1 wr) (fun vi _ => n - (intOf vi).toNat)
      case atStart => exact ⟨0, Nat.zero_le _, rfl, fun j y hj _ => absurd hj (Nat.not_lt_zero j), Below.refl _ _⟩
      case round =>
        obtain ⟨i, hi, rfl, hA, hB⟩ := hrel
        have HA := Lib.hid hA
        have HB := Lib.hid hB
        have hbz := hB.size
        have HB9 := Lib.hid (HB1.out.trans (hB.mono hz1))
        by_cases hlt : i < n
        · obtain ⟨y, hy⟩ := mem_at (l := l) (k := i) (by rw [HN.out]; exact hlt)
          obtain ⟨b, o, rfl, hb, hc⟩ := (HF1.out.mono hB) (by rw [HN.out]; omega)
          obtain ⟨c0, c1, c2, c3⟩ := nd_cells (hc i y hy)
          have hym := List.mem_of_getElem? hy
          have HRy := Lib.hid (HRt.out y hym)
          cases hrn : rightN y with
          | false =>
            rw [hrn] at HRy
            have hr12 := HNo.out y hym hrn
            subst hr12
            obtain ⟨kd, tx, ki, po⟩ := y
            dsimp only at c0 c1 c2 c3 HRy
            clear hA hB hc hy hym hrn
            go_wp2_with (go_at_call 25; (with_reducible refine (HRy.out _).mono ?_); rintro e w3 ⟨rfl, hb3⟩; have HB3 := Lib.hid (HB9.out.trans (hb3.mono HB9.out.size)); clear hb3)
            refine bodyPost_ret (v := .int .i64 12) (by simp [results, Try.results10, go_sem]) rfl ⟨rfl, HB3.out⟩
          | true =>
            rw [hrn] at HRy
            have HA2 := Lib.hid (show ∀ j z, j < i + 1 → l[j]? = some z → rightN z = true from fun j z hj hz => by
              by_cases e : j = i
              · subst e
                rw [hy] at hz
                obtain rfl := Option.some.inj hz
                exact hrn
              · exact HA.out j z (by omega) hz)
            obtain ⟨kd, tx, ki, po⟩ := y
            dsimp only at c0 c1 c2 c3 HRy
            clear hA hB hc hy hym hrn
            go_wp2_with (go_at_call 25; (with_reducible refine (HRy.out _).mono ?_); rintro e w3 ⟨rfl, hb3⟩; have HB3 := Lib.hid (HB.out.trans (hb3.mono hbz)); clear hb3)
            go_roundw
            case rel => exact ⟨i + 1, by omega, by go_num, HA2.out, HB3.out⟩
            case measure => simp [intOf]; omega
        · obtain rfl : i = n := by omega
          have hall : ∀ y ∈ l, rightN y = true := fun y hy => by
            obtain ⟨j, hj, e⟩ := List.getElem_of_mem hy
            exact HA.out j y (by rw [← HN.out]; exact hj) (List.getElem?_eq_some_iff.2 ⟨hj, e⟩)
          have hce := HCi.out hall
          have HCe := Lib.hid hce
          obtain ⟨w5, h5⟩ : ∃ w5, w5 = wr := ⟨_, rfl⟩
          subst h5
          clear hA hB hall hce hlt
          go_wp2
          go_loopw [5] (fun vj wr => ∃ (g : Fo) (Q : List Nd) (j : Nat), vj = .int .i64 (j : Int) ∧ j + g.len = m ∧ l = Q ++ (g.flat ++ []) ∧ g.Wf ∧ L.drop j = placesF Q.length g ∧ (f.deep ≤ 20 ↔ g.deep ≤ 20) ∧ Below w1.heap.size w1 wr) (fun vj _ => m - (intOf vj).toNat)
          case atStart => exact ⟨f, [], 0, rfl, by rw [HM.out]; omega, HS.out.1, HS.out.2.1, HS.out.2.2, Iff.rfl, HB.out⟩
          case round =>
            clear HS HB HB9 hbz
            obtain ⟨g, Q, j, rfl, s1, s3, s4, s6, s7, hB⟩ := hrel
            have HB := Lib.hid hB
            have hbz := hB.size
            have HB9 := Lib.hid (HB1.out.trans (hB.mono hz1))
            cases g with
            | nil =>
              have hjm : j = m := s1
              obtain rfl : R = 0 := HCe.out.1 (s7.2 (Nat.zero_le _))
              subst hjm
              clear s1 s3 s4 s6 s7 hB
              go_wp2
              refine bodyPost_ret (v := .int .i64 0) (by simp [results, Try.results10, go_sem]) rfl ⟨rfl, HB9.out⟩
            | cons y c r =>
              have t1 : j + (r.len + 1) = m := s1
              obtain ⟨p1, p2, p3⟩ := places_step s6
              obtain ⟨q1, q2⟩ := tree_step s3
              have Hq1 := Lib.hid q1
              have HR := Lib.hid s4.2.2
              have HP2 := Lib.hid p2
              have HC := Lib.hid (fun V hV => HD.out Q y c _ V hV q2 ⟨s4.1, s4.2.1, trivial⟩)
              obtain ⟨b1, o1, rfl, hb2, hc2⟩ := HI.out (by omega)
              have c1 := hc2 j _ p1 0 (by decide)
              rw [← hB.cell (p := ⟨b1, o1 + j * 1 + 0, none⟩) hb2] at c1
              dsimp only [intE, List.getElem?_cons_zero] at c1
              rw [Nat.mul_one, Nat.add_zero] at c1
              have hbw : b1 < wr.heap.size := by omega
              have hjm : j < m := by omega
              have hdc : (Fo.cons y c r).deep = max (deepT y c) r.deep := rfl
              rw [hdc] at s7
              obtain ⟨t, ht⟩ : ∃ t, deepT y c = t := ⟨_, rfl⟩
              rw [ht] at HC s7
              obtain ⟨q, hq⟩ : ∃ q, Q.length = q := ⟨_, rfl⟩
              rw [hq] at c1 HC
              have HT1 := Lib.hid t1
              have HS7 := Lib.hid s7
              clear s1 s3 s4 s6 hB p1 p2 p3 q1 q2 hc2 ht hq t1 hdc
              by_cases ht20 : t ≤ 20
              · have k2 : decide ((20 : Int) < (t : Int)) = false := decide_eq_false (by omega)
                have Hnx := Lib.hid (show f.deep ≤ 20 ↔ r.deep ≤ 20 from s7.trans (by omega))
                clear s7
                go_wp2_with (go_at_call 26; (with_reducible refine (HC.out _ (HF1.out.mono HB.out)).mono ?_); rintro e w2 ⟨rfl, hb3⟩; have HB2 := Lib.hid (HB.out.trans (hb3.mono hbz)); clear hb3)
                go_roundw
                case rel => exact ⟨r, Q ++ (y :: c.flat), j + 1, by go_num, by have := HT1.out; omega, Hq1.out, HR.out, HP2.out, Hnx.out, HB2.out⟩
                case measure => simp [intOf]; omega
              · have k2 : decide ((20 : Int) < (t : Int)) = true := decide_eq_true (by omega)
                obtain rfl : R = 12 := HCe.out.2 (fun h => by have := s7.1 h; omega)
                clear s7
                go_wp2_with (go_at_call 26; (with_reducible refine (HC.out _ (HF1.out.mono HB.out)).mono ?_); rintro e w2 ⟨rfl, hb3⟩; have HB2 := Lib.hid (HB9.out.trans (hb3.mono HB9.out.size)); clear hb3)
                refine bodyPost_ret (v := .int .i64 12) (by simp [results, Try.results10, go_sem]) rfl ⟨rfl, HB2.out⟩
  · rw [if_neg hr] at hT
    have HTp := Lib.hid hT
    obtain rfl : R = 12 := hcc.resolve_left fun e => hr (hci.1 e).2.1
    have hn0 : 0 < n := by
      have := List.length_pos_iff.2 hr
      rw [← hn, h, List.length_append]
      omega
    have k0 : decide ((4000 : Int) < (n : Int)) = false := decide_eq_false (by omega)
    rw [hn]
    rw [hn] at HTp
    clear hT hci hcc hR h hw hF hno htx hn hr hr2 HD HRt
    go_enter Try.func10, Try.ntmps10
    go_wp2_with (go_at_call 19; (with_reducible refine (HTp.out _ HF.out).mono ?_); rintro e w1 ⟨⟨v, rfl, ho⟩, hb1⟩; obtain ⟨a1, k1, rfl, _, hI⟩ := own_ints ho; have HB1 := Lib.hid hb1; clear ho hb1 hI)
    refine bodyPost_ret (v := .int .i64 12) (by simp [results, Try.results10, go_sem]) rfl ⟨rfl, HB1.out⟩
end Go.Proofs.Ytlndfognkkobaaa
