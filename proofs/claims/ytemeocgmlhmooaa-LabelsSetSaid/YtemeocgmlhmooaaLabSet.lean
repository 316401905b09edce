/-
  LabelsSet: what a key of right labels says, these with one more and with one less, are as the document says; those that are handed in stay. For any labels, any key and any value; no condition.
-/
import Derived.Test.YtemeocgmlhmooaaLabO
import Derived.Test.YtemeocgmlhmooaaRefR
import Derived.Deep.AppendLies
namespace Go.Proofs.Ytemeocgmlhmooaa
open Go.ChangeShapes Go.WideShapes Go.ChangeAt Go.RowKit
set_option linter.unusedVariables false
namespace labelsSet

set_option maxRecDepth 100000 in
set_option maxHeartbeats 4000000 in
theorem walk_no (c : Option Addr) (kc : Nat) (l : List Lab) (key val : ByteArray) (w : World) (hF : LabL w c l) (hm : l.length ≤ maxLen) (h : ¬ (lightL l = true ∧ key.size ≤ 300 ∧ val.size ≤ 300 ∧ labsB l = true)) :
    Calls Try.prog 4 #[.slice c l.length kc, .string key, .string val] w fun e w' => e = .returned (.bool true) ∧ Below w.heap.size w w' := by
  have HF := Lib.hid hF
  clear hF
  have A := fun V (h : LabL V c l) => lightl_any c kc l V h hm
  by_cases h1 : lightL l = true
  · have hsz := (lightL_iff l).1 h1
    have B := fun V (h : LabL V c l) => refright_l c kc l V h (fun x hx => by have := hsz.2 x hx; omega) hm
    rw [h1] at A
    have HA := Lib.hid A
    clear A
    by_cases h2 : key.size ≤ 300
    · by_cases h3 : val.size ≤ 300
      · have h4 : labsB l = false := by
          cases h5 : labsB l with
          | false => rfl
          | true => exact absurd ⟨h1, h2, h3, h5⟩ h
        rw [h4] at B
        have HB := Lib.hid B
        clear h1 h4 h B hsz
        go_enter Try.func4, Try.ntmps4
        go_wp2_with (first | (go_at_call 6; (with_reducible refine (HA.out _ HF.out).mono ?_); rintro e w1 ⟨rfl, hb1⟩; have hz1 := hb1.size) | (go_at_call 10; (with_reducible refine (HB.out _ (HF.out.mono hb1)).mono ?_); rintro e w2 ⟨rfl, hb2⟩; have hz2 := hb2.size) | (go_at_call 8; (with_reducible refine (known_any _).mono ?_); rintro e w3 ⟨rfl, hb3⟩; have hz3 := hb3.size))
        go_ret
        exact ⟨rfl, by (repeat' (first | with_reducible exact Below.refl _ _ | with_reducible assumption | with_reducible refine Below.drew ?_ | with_reducible refine below_drewN' ?_ _ | with_reducible refine Below.alloc ?_ ?_ _ | with_reducible refine Below.setCell ?_ ?_ _ | with_reducible refine below_step (by assumption) ?_ ?_ | omega | (simp; done) | (simp; omega)))⟩
      · have h3' : 300 < val.size := by omega
        clear h1 h B hsz
        go_enter Try.func4, Try.ntmps4
        go_wp2_with (first | (go_at_call 6; (with_reducible refine (HA.out _ HF.out).mono ?_); rintro e w1 ⟨rfl, hb1⟩; have hz1 := hb1.size) | (go_at_call 10; (with_reducible refine (HB.out _ (HF.out.mono hb1)).mono ?_); rintro e w2 ⟨rfl, hb2⟩; have hz2 := hb2.size) | (go_at_call 8; (with_reducible refine (known_any _).mono ?_); rintro e w3 ⟨rfl, hb3⟩; have hz3 := hb3.size))
        go_ret
        exact ⟨rfl, by (repeat' (first | with_reducible exact Below.refl _ _ | with_reducible assumption | with_reducible refine Below.drew ?_ | with_reducible refine below_drewN' ?_ _ | with_reducible refine Below.alloc ?_ ?_ _ | with_reducible refine Below.setCell ?_ ?_ _ | with_reducible refine below_step (by assumption) ?_ ?_ | omega | (simp; done) | (simp; omega)))⟩
    · have h2' : 300 < key.size := by omega
      clear h1 h B hsz
      go_enter Try.func4, Try.ntmps4
      go_wp2_with (first | (go_at_call 6; (with_reducible refine (HA.out _ HF.out).mono ?_); rintro e w1 ⟨rfl, hb1⟩; have hz1 := hb1.size) | (go_at_call 10; (with_reducible refine (HB.out _ (HF.out.mono hb1)).mono ?_); rintro e w2 ⟨rfl, hb2⟩; have hz2 := hb2.size) | (go_at_call 8; (with_reducible refine (known_any _).mono ?_); rintro e w3 ⟨rfl, hb3⟩; have hz3 := hb3.size))
      go_ret
      exact ⟨rfl, by (repeat' (first | with_reducible exact Below.refl _ _ | with_reducible assumption | with_reducible refine Below.drew ?_ | with_reducible refine below_drewN' ?_ _ | with_reducible refine Below.alloc ?_ ?_ _ | with_reducible refine Below.setCell ?_ ?_ _ | with_reducible refine below_step (by assumption) ?_ ?_ | omega | (simp; done) | (simp; omega)))⟩
  · have h1' : lightL l = false := by simpa using h1
    rw [h1'] at A
    have HA := Lib.hid A
    clear h1 h1' h A
    go_enter Try.func4, Try.ntmps4
    go_wp2_with (first | (go_at_call 6; (with_reducible refine (HA.out _ HF.out).mono ?_); rintro e w1 ⟨rfl, hb1⟩; have hz1 := hb1.size) | (go_at_call 10; (with_reducible refine (HB.out _ (HF.out.mono hb1)).mono ?_); rintro e w2 ⟨rfl, hb2⟩; have hz2 := hb2.size) | (go_at_call 8; (with_reducible refine (known_any _).mono ?_); rintro e w3 ⟨rfl, hb3⟩; have hz3 := hb3.size))
    go_ret
    exact ⟨rfl, by (repeat' (first | with_reducible exact Below.refl _ _ | with_reducible assumption | with_reducible refine Below.drew ?_ | with_reducible refine below_drewN' ?_ _ | with_reducible refine Below.alloc ?_ ?_ _ | with_reducible refine Below.setCell ?_ ?_ _ | with_reducible refine below_step (by assumption) ?_ ?_ | omega | (simp; done) | (simp; omega)))⟩

set_option maxRecDepth 100000 in
set_option maxHeartbeats 4000000 in
theorem walk_yes (c : Option Addr) (kc : Nat) (l : List Lab) (key val : ByteArray) (w : World) (hF : LabL w c l) (hok : NilOk c l.length kc) (h1 : lightL l = true) (h2 : key.size ≤ 300) (h3 : val.size ≤ 300) (h4 : labsB l = true) :
    Calls Try.prog 4 #[.slice c l.length kc, .string key, .string val] w fun e w' => e = .returned (.bool true) ∧ Below w.heap.size w w' := by
  obtain ⟨hm, hsz⟩ := (lightL_iff l).1 h1
  have hm' : l.length ≤ maxLen := by unfold maxLen; omega
  have hm3 : l.length ≤ 1000 := by omega
  have A := fun V (h : LabL V c l) => lightl_any c kc l V h hm'
  have B := fun V (h : LabL V c l) => refright_l c kc l V h (fun x hx => by have := hsz x hx; omega) hm'
  have R := fun V (h : LabL V c l) => refset_any c kc l key val V h hm3 (by omega) (fun x hx => by have := hsz x hx; omega)
  rw [← set_eq val (sorted_of h4)] at R
  rw [h1] at A
  rw [h4] at B
  have HA := Lib.hid A
  have HB := Lib.hid B
  have HR := Lib.hid R
  have HF := Lib.hid hF
  have Hok := Lib.hid hok
  obtain ⟨S, hS⟩ : ∃ S, setP l key val = S := ⟨_, rfl⟩
  obtain ⟨D, hD⟩ : ∃ D, dropL l key = D := ⟨_, rfl⟩
  have hSl : S.length ≤ 1000 := by
    have a1 := (List.takeWhile_sublist (aheadB key) (l := l)).length_le
    have a2 := List.length_filter_le (otherB key) (l.dropWhile (aheadB key))
    have a3 := (List.dropWhile_sublist (aheadB key) (l := l)).length_le
    rw [← hS]
    unfold setP
    rw [List.length_append, List.length_cons]
    omega
  have hDl : D.length ≤ 1000 := by
    rw [← hD]
    exact Nat.le_trans (List.length_filter_le _ _) hm3
  have hda : S.length ≤ 1000000 := by omega
  have hdd : D.length ≤ 1000000 := by omega
  have hm6 : l.length ≤ 1000000 := by omega
  have P1 := fun (a : Option Addr) (k : Nat) V (h : LabL V a l) => set_any a k l key val V h hm3
  have P2 := fun (a : Option Addr) (k : Nat) V (h : LabL V a l) => drop_any a k l key V h hm6
  have P3 := fun V (h : LabL V c l) => refdrop_any c kc l key V h hm6
  rw [hS] at HR
  simp only [hS] at P1
  simp only [hD] at P2 P3
  have HP1 := Lib.hid P1
  have HP2 := Lib.hid P2
  have HP3 := Lib.hid P3
  clear A B R hF hok h1 h4 hsz P1 P2 P3 hS hD
  obtain ⟨i0, hi, hz0, hz1, hz2⟩ := info_parts Try.info36
  have Hi := Lib.hid hi
  have Hz0 := Lib.hid hz0
  have Hz1 := Lib.hid hz1
  have Hz2 := Lib.hid hz2
  clear hi hz0 hz1 hz2
  have hq3 : 0 + l.length ≤ maxLen := by omega
  have hq4 : (0 + l.length) * 32 ≤ 140737488355328 := by omega
  obtain ⟨gv, hgv⟩ : ∃ g, getV l key = g := ⟨_, rfl⟩
  obtain ⟨gb, hgb⟩ : ∃ g, getB l key = g := ⟨_, rfl⟩
  have G1 := fun (a : Option Addr) (k : Nat) V (h : LabL V a l) => get_any a k l key V h hm'
  have G2 := fun V (h : LabL V c l) => refget_any c kc l key V h hm'
  simp only [hgv, hgb] at G1 G2
  have HG1 := Lib.hid G1
  have HG2 := Lib.hid G2
  clear hgv hgb G1 G2
  go_enter Try.func4, Try.ntmps4
  go_wp2_with (first
    | (go_at_call 6; (with_reducible refine (HA.out _ HF.out).mono ?_); rintro e w1 ⟨rfl, hb1⟩; have hz1 := hb1.size; have HB1 := Lib.hid hb1; have HF1 := Lib.hid (HF.out.mono hb1))
    | (go_at_call 10; (with_reducible refine (HB.out _ HF1.out).mono ?_); rintro e w2 ⟨rfl, hb2⟩; have hz2 := hb2.size; have HB2 := Lib.hid (HB1.out.trans (hb2.mono HB1.out.size)); have HF2 := Lib.hid (HF1.out.mono hb2))
    | (at_builtin; refine wpList_append_src rfl (.tmp 36) (.tmp 37) 22 rfl w2.heap.size 36 i0 _ 2 32 Try.underlying22 Hi.out Hz0.out Hz1.out Hz2.out rfl (by decide) _ 0 [] rfl (World.ownsRow_made w2 #[] 0 (Nat.le_refl w2.heap.size) (Nat.zero_le _) rfl) c l.length kc (l.flatMap kcs) rfl (rows_length kcs 2 kcs_len l) (RowsAt.news kcs_len (HF2.out.mono ((Below.refl _ w2).alloc (Nat.le_refl _) _))) Hok.out (flat_ones kcs_one l) hq3 hq4 (le_alloc (Nat.le_refl w2.heap.size) _) ?_; intro v1 w3 hown1 hgrow1; rw [Nat.zero_add, List.nil_append] at hown1; have HB3 := Lib.hid (own_below (World.ownsRow_made w2 #[] 0 (Nat.le_refl w2.heap.size) (Nat.zero_le _) rfl : (w2.alloc (.cells #[] 36)).ownsRow w2.heap.size 36 2 (.slice (some ⟨w2.heap.size, 0, none⟩) 0 0) 0 []) ((Below.refl _ w2).alloc (Nat.le_refl w2.heap.size) _) (le_alloc (Nat.le_refl w2.heap.size) _) hgrow1); obtain ⟨s1, k1, rfl, hn1, hI⟩ := IsL.of_own (l := l) kcs_len (by decide) hown1; have HI := Lib.hid hI; have hz3 := HB3.out.size; have HF3 := Lib.hid (HF2.out.mono HB3.out); clear hown1 hgrow1 hI hn1)
    | (go_at_call 13; (with_reducible refine (HG1.out s1 k1 _ HI.out).mono ?_); rintro e w4 ⟨rfl, hb4⟩; have hz4 := hb4.size; have HB4 := Lib.hid hb4; have HI4 := Lib.hid (HI.out.mono hb4); have HF4 := Lib.hid (HF3.out.mono hb4))
    | (go_at_call 14; (with_reducible refine (HG2.out _ HF4.out).mono ?_); rintro e w5 ⟨rfl, hb5⟩; have hz5 := hb5.size; have HB5 := Lib.hid hb5; have HI5 := Lib.hid (HI4.out.mono hb5); have HF5 := Lib.hid (HF4.out.mono hb5))
    | (go_at_call 15; (with_reducible refine (HP1.out s1 k1 _ HI5.out).mono ?_); rintro e w6 ⟨⟨va, rfl, hva⟩, hb6⟩; have HB6 := Lib.hid hb6; have OA := Lib.hid hva; obtain ⟨qa, ka, rfl, _, _⟩ := hva.isL kcs_len (by decide); have hz6 := hb6.size; have HI6 := Lib.hid (HI5.out.mono hb6); have HF6 := Lib.hid (HF5.out.mono hb6); clear hva)
    | (go_at_call 16; (with_reducible refine (HP2.out s1 k1 _ HI6.out).mono ?_); rintro e w7 ⟨⟨vb, rfl, hvb⟩, hb7⟩; have HB7 := Lib.hid hb7; have OB := Lib.hid hvb; obtain ⟨qb, kb, rfl, _, _⟩ := hvb.isL kcs_len (by decide); have hz7 := hb7.size; have HF7 := Lib.hid (HF6.out.mono hb7); clear hvb)
    | (go_at_call 18; (with_reducible refine (HR.out _ HF7.out).mono ?_); rintro e w8 ⟨⟨v8, rfl, hv8⟩, hb8⟩; have HB8 := Lib.hid hb8; obtain ⟨q8, k8, rfl, _, hr8⟩ := hv8.isL kcs_len (by decide); have HR8 := Lib.hid hr8; have hz8 := hb8.size; have HF8 := Lib.hid (HF7.out.mono hb8); clear hv8 hr8)
    | (go_at_call 17; (with_reducible refine (same_any qa q8 ka k8 S S _ ((((OA.out.isL kcs_len (by decide)).mono HB7.out).mono HB8.out).rows) HR8.out hda hda).mono ?_); rw [sameL_self]; rintro e w9 ⟨rfl, hb9⟩; have HB9 := Lib.hid hb9; have hz9 := hb9.size; have HF9 := Lib.hid (HF8.out.mono hb9))
    | (go_at_call 19; (with_reducible refine (HP3.out _ HF9.out).mono ?_); rintro e w10 ⟨⟨v10, rfl, hv10⟩, hb10⟩; have HB10 := Lib.hid hb10; obtain ⟨q10, k10, rfl, _, hr10⟩ := hv10.isL kcs_len (by decide); have HR10 := Lib.hid hr10; have hz10 := hb10.size; clear hv10 hr10)
    | (go_at_call 17; (with_reducible refine (same_any qb q10 kb k10 D D _ (((((OB.out.isL kcs_len (by decide)).mono HB8.out).mono HB9.out).mono HB10.out).rows) HR10.out hdd hdd).mono ?_); rw [sameL_self]; rintro e V ⟨rfl, hb11⟩; have HB11 := Lib.hid hb11; have hz11 := hb11.size))
  have OAV := Lib.hid (own_kept (own_kept (own_kept (own_kept (own_kept OA.out HB7.out) HB8.out) HB9.out) HB10.out) HB11.out)
  have OBV := Lib.hid (own_kept (own_kept (own_kept (own_kept OB.out HB8.out) HB9.out) HB10.out) HB11.out)
  have HBV := Lib.hid (show Below w5.heap.size w5 V from ((((((HB6.out.trans (HB7.out.mono (by omega))).trans (HB8.out.mono (by omega))).trans (HB9.out.mono (by omega))).trans (HB10.out.mono (by omega))).trans (HB11.out.mono (by omega)))))
  have HBW3 := Lib.hid (show Below w.heap.size w w3 from HB2.out.trans (HB3.out.mono HB2.out.size))
  have HBW := Lib.hid (show Below w.heap.size w w5 from HBW3.out.trans ((HB4.out.trans (HB5.out.mono (by omega))).mono HBW3.out.size))
  have hgb3 : ∀ q, (Value.slice qa S.length ka).ownBlock = some q → w5.heap.size ≤ q ∧ q < w6.heap.size := fun q hq => World.ownsRow.lt OA.out q hq
  have hgb4 : ∀ q, (Value.slice qb D.length kb).ownBlock = some q → w6.heap.size ≤ q ∧ q < w7.heap.size := fun q hq => World.ownsRow.lt OB.out q hq
  have HG3 := Lib.hid hgb3
  have HG4 := Lib.hid hgb4
  have hV3 : w5.heap.size ≤ V.heap.size := HBV.out.size
  have hV4 : w6.heap.size ≤ V.heap.size := by omega
  have hWw3 := HBW.out.size
  have h34 := HB6.out.size
  clear hgb3 hgb4 hb1 hb2 hb4 hb5 hb6 hb7 hb8 hb9 hb10 hb11 hz1 hz2 hz3 hz4 hz5 hz6 hz7 hz8 hz9 hz10 hz11
  go_loopw [15] (fun i wr => ∃ k : Nat, k ≤ S.length ∧ i = .int .i64 k ∧ (∃ us, wr.ownsRow w5.heap.size 36 2 (Value.slice qa S.length ka) S.length us) ∧ V.grownBy wr ((Value.slice qa S.length ka)).ownBlock) (fun i _ => S.length - (intOf i).toNat)
  case atStart => exact ⟨0, Nat.zero_le _, rfl, ⟨_, OAV.out⟩, World.grownBy.refl V _⟩
  case round =>
    obtain ⟨k, hk, rfl, ⟨us, hus⟩, hgb⟩ := hrel
    have Hus := Lib.hid hus
    have Hgb := Lib.hid hgb
    clear hus hgb
    by_cases hlt : k < S.length
    · skip
      obtain ⟨g, cap9, e9, hg9, hgl⟩ := World.ownsRow.form Hus.out (by omega)
      simp only [Value.slice.injEq, true_and] at e9
      obtain ⟨e8, e9⟩ := e9
      subst e8
      subst e9
      have hst := World.ownsRow.stored Hus.out (k * 2 + 1) (.string ⟨#[115, 112, 111, 105, 108, 116]⟩)
      obtain ⟨uc, hcell⟩ := own_cell Hus.out (k * 2 + 1) (by omega)
      have hfz := World.ownsRow.frozenAt Hus.out (k * 2 + 1)
      have Hst := Lib.hid hst
      clear hst
      go_wp2
      go_roundw
      case rel => exact ⟨k + 1, by omega, by go_num, ⟨_, Hst.out.1⟩, Hgb.out.trans Hst.out.2⟩
      case measure => simp [intOf]; omega
    · obtain ⟨m, hm9⟩ : ∃ m, S.length = m := ⟨_, rfl⟩
      have hgs := Hgb.out.size
      have OB2 := Lib.hid (World.ownsRow.kept OBV.out Hgb.out (by
        cases h1 : (Value.slice qb D.length kb).ownBlock with
        | none => exact .inl rfl
        | some q =>
          refine .inr fun h2 => ?_
          have t1 := HG3.out q h2.symm
          have t2 := HG4.out q h1
          omega))
      have HB12 := Lib.hid (show Below w5.heap.size V wr from Below.grown (Below.refl _ _) Hgb.out hV3 fun q hq => (HG3.out q hq).1)
      have hsz10 := HB12.out.size
      clear Hus Hgb hgs hm9
      obtain ⟨V2, hV9⟩ : ∃ W9, W9 = wr := ⟨_, rfl⟩
      subst hV9
      go_wp2
      go_loopw [16] (fun i wr => ∃ k : Nat, k ≤ D.length ∧ i = .int .i64 k ∧ (∃ us, wr.ownsRow w6.heap.size 36 2 (Value.slice qb D.length kb) D.length us) ∧ V2.grownBy wr ((Value.slice qb D.length kb)).ownBlock) (fun i _ => D.length - (intOf i).toNat)
      case atStart => exact ⟨0, Nat.zero_le _, rfl, ⟨_, OB2.out⟩, World.grownBy.refl V2 _⟩
      case round =>
        obtain ⟨k, hk, rfl, ⟨us, hus⟩, hgb⟩ := hrel
        have Hus := Lib.hid hus
        have Hgb := Lib.hid hgb
        clear hus hgb
        by_cases hlt : k < D.length
        · skip
          obtain ⟨g, cap9, e9, hg9, hgl⟩ := World.ownsRow.form Hus.out (by omega)
          simp only [Value.slice.injEq, true_and] at e9
          obtain ⟨e8, e9⟩ := e9
          subst e8
          subst e9
          have hst := World.ownsRow.stored Hus.out (k * 2 + 1) (.string ⟨#[115, 112, 111, 105, 108, 116]⟩)
          obtain ⟨uc, hcell⟩ := own_cell Hus.out (k * 2 + 1) (by omega)
          have hfz := World.ownsRow.frozenAt Hus.out (k * 2 + 1)
          have Hst := Lib.hid hst
          clear hst
          go_wp2
          go_roundw
          case rel => exact ⟨k + 1, by omega, by go_num, ⟨_, Hst.out.1⟩, Hgb.out.trans Hst.out.2⟩
          case measure => simp [intOf]; omega
        · have HB13 := Lib.hid (show Below w5.heap.size V2 wr from Below.grown (Below.refl _ _) Hgb.out (by omega) fun q hq => by have := HG4.out q hq; omega)
          have HBZ := Lib.hid (show Below w5.heap.size w5 wr from HBV.out.trans (HB12.out.trans HB13.out))
          have HZ := Lib.hid (show Below w.heap.size w wr from HBW.out.trans (HBZ.out.mono hWw3))
          have HIZ := Lib.hid (HI5.out.mono HBZ.out)
          have HFZ := Lib.hid (HF.out.mono HZ.out)
          have hzZ := HZ.out.size
          clear Hus Hgb
          obtain ⟨V3, hV9⟩ : ∃ W9, W9 = wr := ⟨_, rfl⟩
          subst hV9
          go_wp2_with (first
            | (go_at_call 17; (with_reducible refine (same_any s1 c k1 kc l l _ HIZ.out HFZ.out hm6 hm6).mono ?_); rw [sameL_self]; rintro e w7 ⟨rfl, hb7⟩; have hz7 := hb7.size)
            | (go_at_call 8; (with_reducible refine (known_any _).mono ?_); rintro e w8 ⟨rfl, hb8⟩))
          go_ret
          exact ⟨rfl, HZ.out.trans (by (repeat' (first | with_reducible exact Below.refl _ _ | with_reducible assumption | with_reducible refine Below.drew ?_ | with_reducible refine below_drewN' ?_ _ | with_reducible refine Below.alloc ?_ ?_ _ | with_reducible refine Below.setCell ?_ ?_ _ | with_reducible refine below_step (by assumption) ?_ ?_ | omega | (simp; done) | (simp; omega))))⟩

theorem walk {H : Type} {enc : TypeId × Value → H} {W : World} {base : Nat} {v : Value} {d : DataW H} {p : List MemPlace} (key val : ByteArray)
    (hv : Value.okWide Try.prog W .any base 22 v) (h : DataW.Trod enc Try.prog W 0 (fun _ => true) true 22 v d p) :
    Calls Try.prog 4 #[v, .string key, .string val] W fun e W' => e = .returned (.bool true) ∧ Below W.heap.size W W' := by
  obtain ⟨c, l, kc, rfl, hok, hF, hm, _⟩ := open_labs hv h
  by_cases hh : lightL l = true ∧ key.size ≤ 300 ∧ val.size ≤ 300 ∧ labsB l = true
  · exact walk_yes c kc l key val W hF hok hh.1 hh.2.1 hh.2.2.1 hh.2.2.2
  · exact walk_no c kc l key val W hF hm hh

set_option maxRecDepth 100000 in
theorem lifted (os : Os) (started : os.Started) (H : Type) (enc : TypeId × Value → H) :
    ReturnsInHanded {} Try.checked os 4 .any (Rows.labelsSetSpec.pre6 enc Try.prog Try.f4 Rows.labelsSetRow.domain false) (Rows.labelsSetSpec.post enc Try.prog Try.f4 false true false false) := by
  refine returnsInHanded_of_change (C := Try.checked) Try.own started (by kernel_rfl) Try.func4
    (ChangeSpec.witness6 (enc := enc) (C := Try.checked) false ⟨#[], #[.slice none 0 0, .string ⟨#[]⟩, .string ⟨#[]⟩], []⟩ 8 (by kernel_rfl) (by kernel_rfl) (by kernel_rfl) (by kernel_rfl)) ?_
  intro W base args ds gs before hval hW _ _
  have hW' := hW
  obtain ⟨p, q, hA, hV, rfl, hfz, hnd⟩ := hW
  rw [Try.params4] at hA hval
  obtain ⟨v0, v1, v2, d0, d1, d2, p0, p1, p2, rfl, rfl, rfl, h0, h1, h2⟩ := trodAll_three hA
  obtain ⟨k1, rfl, _, _, _⟩ := Go.ChangeMaps.open_string Try.underlying9 (hval 1 9 v1 rfl rfl) h1
  obtain ⟨k2, rfl, _, _, _⟩ := Go.ChangeMaps.open_string Try.underlying9 (hval 2 9 v2 rfl rfl) h2
  refine (walk k1 k2 (hval 0 22 v0 rfl rfl) h0).mono fun e W' ⟨he, hb⟩ => ?_
  exact ⟨_, he, law_post Try.laidOut hW' rfl (by kernel_rfl) (by kernel_rfl) Try.underlying4 rfl rfl rfl hb⟩

theorem over : Rows.labelsSetRow.holds Try.pinned (OpenSpec.ofChange Rows.labelsSetSpec) :=
  OpenClaim.holds_of_wide 4 Try.f4 rfl rfl rfl rfl rfl rfl rfl ⟨rfl, rfl, rfl, rfl, rfl⟩ rfl rfl rfl rfl rfl (by kernel_rfl) Try.func4 (by kernel_rfl)
    (of_decide_eq_true (by kernel_rfl)) (by unfold Func.isWrapper; first | (rw [if_pos (by decide +kernel)]; kernel_rfl) | (rw [if_neg (by decide +kernel)]; exact ⟨rfl, rfl⟩))
    (fun os started H enc _ => lifted os started H enc)

/-- The statement. -/
theorem proved : Rows.LabelsSetSaid := over
end labelsSet
end Go.Proofs.Ytemeocgmlhmooaa
