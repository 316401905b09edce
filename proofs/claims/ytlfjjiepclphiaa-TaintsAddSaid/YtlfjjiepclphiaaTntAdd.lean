/-
  TaintsAdd: taints with one more, and without some, are as the document says; those that are handed in stay. For any taints, any taint and any effect; no condition.
-/
import Derived.Test.YtlfjjiepclphiaaTntM
import Derived.Deep.AppendLies
namespace Go.Proofs.Ytlfjjiepclphiaa
open Go.ChangeShapes Go.WideShapes Go.ChangeAt Go.RowKit
set_option linter.unusedVariables false
namespace taintsAdd

theorem _root_.Go.Proofs.Ytlfjjiepclphiaa.IsL.rows {l : List Tnt} {a : Option Addr} {k n : Nat} {w : World} (h : IsL tcs 3 l (.slice a n k) w) : TntsAt w a l := by
  obtain ⟨a', k', e, _, hr⟩ := h
  simp only [Value.slice.injEq] at e
  rw [e.1]
  exact hr
theorem _root_.Go.Proofs.Ytlfjjiepclphiaa.own_cell {w : World} {base g cap n K : Nat} {e : TypeId} {xs : List Value} (h : w.ownsRow base e K (.slice (some ⟨g, 0, none⟩) n cap) n xs) (j : Nat) (hj : j < n * K) : ∃ u, w.cell? ⟨g, j, none⟩ = some u := by
  have h1 := World.ownsRow.cellAt h j hj
  rw [List.getElem?_eq_getElem (by rw [h.1]; exact hj)] at h1
  exact ⟨_, h1⟩
theorem light_nil (c : Option Addr) (kc : Nat) (xs : List Tnt) (w : World) (hF : TntsAt w c xs) (hm : xs.length ≤ maxLen) :
    Calls Try.prog 8 #[.slice none 0 0, .slice c xs.length kc] w fun e w' => e = .returned (.bool (lightB [] xs)) ∧ Below w.heap.size w w' := light_any none c 0 kc [] xs w RowsAt.nil (Nat.zero_le _) hF hm
theorem light_one (x : Tnt) (w : World) :
    Calls Try.prog 8 #[.slice none 0 0, .slice (some ⟨w.heap.size, 0, none⟩) 1 1] (w.alloc (.cells #[.string x.key, .string x.val, .int .i64 x.eff] 30)) fun e w' => e = .returned (.bool (lightB [] [x])) ∧ Below (w.alloc (.cells #[.string x.key, .string x.val, .int .i64 x.eff] 30)).heap.size (w.alloc (.cells #[.string x.key, .string x.val, .int .i64 x.eff] 30)) w' :=
  light_any none (some ⟨w.heap.size, 0, none⟩) 0 1 [] [x] _ RowsAt.nil (Nat.zero_le _) (RowsAt.new tcs_len w [x] 30) (by show 1 ≤ maxLen; unfold maxLen; omega)

set_option maxRecDepth 100000 in
set_option maxHeartbeats 4000000 in
theorem walk_no (c : Option Addr) (kc : Nat) (xs : List Tnt) (x : Tnt) (eff : Int) (w : World) (hF : TntsAt w c xs) (hm : xs.length ≤ maxLen) (hL : lightB [] xs = false ∨ (lightB [] xs = true ∧ lightB [] [x] = false)) :
    Calls Try.prog 5 #[.slice c xs.length kc, .agg #[.string (x).key, .string (x).val, .int .i64 (x).eff], .int .i64 eff] w fun e w' => e = .returned (.bool true) ∧ Below w.heap.size w w' := by
  have HF := Lib.hid (hF.mono ((Below.refl _ w).alloc (Nat.le_refl _) (.cells #[.string x.key, .string x.val, .int .i64 x.eff] 30)))
  clear hF
  rcases hL with h1 | ⟨h1, h2⟩
  · have H1 := Lib.hid h1
    clear h1
    go_enter Try.func5, Try.ntmps5
    go_wp2_with (first | (go_at_call 8; (with_reducible refine (light_nil c kc xs _ HF.out hm).mono ?_); rintro e w1 ⟨rfl, hb1⟩; rw [H1.out]; have hz1 := hb1.size; (try simp at hz1)) | (go_at_call 9; (with_reducible refine (known_any _).mono ?_); rintro e w2 ⟨rfl, hb2⟩))
    go_ret
    exact ⟨rfl, by (repeat' (first | with_reducible exact Below.refl _ _ | with_reducible assumption | with_reducible refine Below.drew ?_ | with_reducible refine below_drewN' ?_ _ | with_reducible refine Below.alloc ?_ ?_ _ | with_reducible refine Below.setCell ?_ ?_ _ | with_reducible refine below_step (by assumption) ?_ ?_ | omega | (simp; done) | (simp; omega)))⟩
  · have H1 := Lib.hid h1
    have H2 := Lib.hid h2
    clear h1 h2
    go_enter Try.func5, Try.ntmps5
    go_wp2_with (first | (go_at_call 8; (with_reducible refine (light_nil c kc xs _ HF.out hm).mono ?_); rintro e w1 ⟨rfl, hb1⟩; rw [H1.out]; have hX1 := (CellsX.new x w 30).mono hb1; have hz1 := hb1.size; (try simp at hz1); obtain ⟨x10, x11, x12, x13⟩ := hX1) | (go_at_call 8; (with_reducible refine (light_one x _).mono ?_); rintro e w3 ⟨rfl, hb3⟩; rw [H2.out]; have hz3 := hb3.size; (try simp at hz3)) | (go_at_call 9; (with_reducible refine (known_any _).mono ?_); rintro e w2 ⟨rfl, hb2⟩))
    go_ret
    exact ⟨rfl, by (repeat' (first | with_reducible exact Below.refl _ _ | with_reducible assumption | with_reducible refine Below.drew ?_ | with_reducible refine below_drewN' ?_ _ | with_reducible refine Below.alloc ?_ ?_ _ | with_reducible refine Below.setCell ?_ ?_ _ | with_reducible refine below_step (by assumption) ?_ ?_ | omega | (simp; done) | (simp; omega)))⟩

set_option maxRecDepth 100000 in
set_option maxHeartbeats 4000000 in
theorem walk_yes (c : Option Addr) (kc : Nat) (xs : List Tnt) (x : Tnt) (eff : Int) (w : World) (hF : TntsAt w c xs) (hok : NilOk c xs.length kc) (hm : xs.length ≤ 40) (h1 : lightB [] xs = true) (h2 : lightB [] [x] = true) :
    Calls Try.prog 5 #[.slice c xs.length kc, .agg #[.string (x).key, .string (x).val, .int .i64 (x).eff], .int .i64 eff] w fun e w' => e = .returned (.bool true) ∧ Below w.heap.size w w' := by
  have HF := Lib.hid (hF.mono ((Below.refl _ w).alloc (Nat.le_refl _) (.cells #[.string x.key, .string x.val, .int .i64 x.eff] 30)))
  have HF0 := Lib.hid hF
  have H1 := Lib.hid h1
  have H2 := Lib.hid h2
  have Hok := Lib.hid hok
  clear hF h1 h2 hok
  obtain ⟨i0, hi, hz0, hz1, hz2⟩ := info_parts Try.info30
  have Hi := Lib.hid hi
  have Hz0 := Lib.hid hz0
  have Hz1 := Lib.hid hz1
  have Hz2 := Lib.hid hz2
  clear hi hz0 hz1 hz2
  have hm' : xs.length ≤ maxLen := by unfold maxLen; omega
  have hm6 : xs.length ≤ 1000000 := by omega
  have hc3 : 0 + xs.length ≤ maxLen := by omega
  have hc4 : (0 + xs.length) * 40 ≤ 140737488355328 := by omega
  have hda : (addT xs x).length ≤ 1000000 := by unfold addT; rw [List.length_append]; have := List.length_filter_le (slotB x.key x.eff) xs; simp; omega
  have hdd : (dropT xs x.key eff).length ≤ 1000000 := Nat.le_trans (List.length_filter_le _ _) hm6
  go_enter Try.func5, Try.ntmps5
  go_wp2_with (first
    | (go_at_call 8; (with_reducible refine (light_nil c kc xs _ HF.out hm').mono ?_); rintro e w1 ⟨rfl, hb1⟩; rw [H1.out]; have hX1 := (CellsX.new x w 30).mono hb1; have HX1 := Lib.hid hX1; have hz1 := hb1.size; have HB1 := Lib.hid (show Below w.heap.size w w1 by (repeat' (first | with_reducible exact Below.refl _ _ | with_reducible assumption | with_reducible refine Below.drew ?_ | with_reducible refine below_drewN' ?_ _ | with_reducible refine Below.alloc ?_ ?_ _ | with_reducible refine Below.setCell ?_ ?_ _ | with_reducible refine below_step (by assumption) ?_ ?_ | omega | (simp; done) | (simp; omega)))); obtain ⟨x10, x11, x12, x13⟩ := hX1; (try simp at hz1))
    | (go_at_call 8; (with_reducible refine (light_one x _).mono ?_); rintro e w2 ⟨rfl, hb2⟩; rw [H2.out]; have HX2 := Lib.hid ((HX1.out.mono ((Below.refl _ w1).alloc (Nat.le_refl _) _)).mono hb2); have hz2 := hb2.size; (try simp at hz2); have HB2 := Lib.hid (HB1.out.trans (show Below w.heap.size w1 w2 by (repeat' (first | with_reducible exact Below.refl _ _ | with_reducible assumption | with_reducible refine Below.drew ?_ | with_reducible refine below_drewN' ?_ _ | with_reducible refine Below.alloc ?_ ?_ _ | with_reducible refine Below.setCell ?_ ?_ _ | with_reducible refine below_step (by assumption) ?_ ?_ | omega | (simp; done) | (simp; omega))))); have HF2 := Lib.hid (HF0.out.mono HB2.out))
    | (at_builtin; refine wpList_append_src rfl (.tmp 23) (.tmp 24) 23 rfl w2.heap.size 30 i0 _ 3 40 Try.underlying23 Hi.out Hz0.out Hz1.out Hz2.out rfl (by decide) _ 0 [] rfl (World.ownsRow_made w2 #[] 0 (Nat.le_refl w2.heap.size) (Nat.zero_le _) rfl) c xs.length kc (xs.flatMap tcs) rfl (rows_length tcs 3 tcs_len xs) (RowsAt.news tcs_len (HF2.out.mono ((Below.refl _ w2).alloc (Nat.le_refl _) _))) Hok.out (flat_ones tcs_one xs) hc3 hc4 (le_alloc (Nat.le_refl w2.heap.size) _) ?_; intro v1 w3 hown1 hgrow1; rw [Nat.zero_add, List.nil_append] at hown1; have HB3 := Lib.hid (own_below (World.ownsRow_made w2 #[] 0 (Nat.le_refl w2.heap.size) (Nat.zero_le _) rfl : (w2.alloc (.cells #[] 30)).ownsRow w2.heap.size 30 3 (.slice (some ⟨w2.heap.size, 0, none⟩) 0 0) 0 []) ((Below.refl _ w2).alloc (Nat.le_refl w2.heap.size) _) (le_alloc (Nat.le_refl w2.heap.size) _) hgrow1); obtain ⟨s1, k1, rfl, hn1, hI⟩ := IsL.of_own (l := xs) tcs_len (by decide) hown1; have HI := Lib.hid hI; have hz3 := HB3.out.size; have hX3 := HX2.out.mono HB3.out; have HX3 := Lib.hid hX3; obtain ⟨x30, x31, x32, x33⟩ := hX3; have HF3 := Lib.hid (HF2.out.mono HB3.out); clear hown1 hgrow1 hI hn1)
    | (go_at_call 15; (with_reducible refine (add_any s1 k1 xs x _ HI.out hm6).mono ?_); rintro e w4 ⟨⟨va, rfl, hva⟩, hb4⟩; have HB4 := Lib.hid hb4; have OA := Lib.hid hva; obtain ⟨qa, ka, rfl, _, _⟩ := hva.isL tcs_len (by decide); have hz4 := hb4.size; have hX4 := HX3.out.mono hb4; have HX4 := Lib.hid hX4; obtain ⟨x40, x41, x42, x43⟩ := hX4; clear hva)
    | (go_at_call 14; (with_reducible refine (drop_any s1 k1 xs x.key eff _ (HI.out.mono HB4.out) hm6).mono ?_); rintro e w5 ⟨⟨vb, rfl, hvb⟩, hb5⟩; have HB5 := Lib.hid hb5; have OB := Lib.hid hvb; obtain ⟨qb, kb, rfl, _, _⟩ := hvb.isL tcs_len (by decide); have hz5 := hb5.size; have hX5 := HX4.out.mono hb5; have HX5 := Lib.hid hX5; obtain ⟨x50, x51, x52, x53⟩ := hX5; have HF5 := Lib.hid ((HF3.out.mono HB4.out).mono HB5.out); clear hvb)
    | (go_at_call 17; (with_reducible refine (refadd_any c kc xs x _ HF5.out hm6).mono ?_); rintro e w6 ⟨⟨v6, rfl, hv6⟩, hb6⟩; have HB6 := Lib.hid hb6; obtain ⟨q6, k6, rfl, _, hr6⟩ := hv6.isL tcs_len (by decide); have HR6 := Lib.hid hr6; have hz6 := hb6.size; clear hv6 hr6)
    | (go_at_call 13; (with_reducible refine (same_any qa q6 ka k6 (addT xs x) (addT xs x) _ ((((OA.out.isL tcs_len (by decide)).mono HB5.out).mono HB6.out).rows) HR6.out hda hda).mono ?_); rw [kvS]; rintro e w7 ⟨rfl, hb7⟩; have HB7 := Lib.hid hb7; have hz7 := hb7.size; have hX7 := (HX5.out.mono HB6.out).mono hb7; have HX7 := Lib.hid hX7; obtain ⟨x70, x71, x72, x73⟩ := hX7; have HF7 := Lib.hid ((HF5.out.mono HB6.out).mono HB7.out))
    | (go_at_call 18; (with_reducible refine (refdrop_any c kc xs x.key eff _ HF7.out hm6).mono ?_); rintro e w8 ⟨⟨v8, rfl, hv8⟩, hb8⟩; have HB8 := Lib.hid hb8; obtain ⟨q8, k8, rfl, _, hr8⟩ := hv8.isL tcs_len (by decide); have HR8 := Lib.hid hr8; have hz8 := hb8.size; clear hv8 hr8)
    | (go_at_call 13; (with_reducible refine (same_any qb q8 kb k8 (dropT xs x.key eff) (dropT xs x.key eff) _ (((((OB.out.isL tcs_len (by decide)).mono HB6.out).mono HB7.out).mono HB8.out).rows) HR8.out hdd hdd).mono ?_); rw [kvS]; rintro e V ⟨rfl, hb9⟩; have HB9 := Lib.hid hb9; have hz9 := hb9.size))
  have OAV := Lib.hid (own_kept (own_kept (own_kept (own_kept (own_kept OA.out HB5.out) HB6.out) HB7.out) HB8.out) HB9.out)
  have OBV := Lib.hid (own_kept (own_kept (own_kept (own_kept OB.out HB6.out) HB7.out) HB8.out) HB9.out)
  have HBV := Lib.hid (show Below w3.heap.size w3 V from ((((((HB4.out.trans (HB5.out.mono (by omega))).trans (HB6.out.mono (by omega))).trans (HB7.out.mono (by omega))).trans (HB8.out.mono (by omega))).trans (HB9.out.mono (by omega)))))
  have HBW := Lib.hid (show Below w.heap.size w w3 from HB2.out.trans (HB3.out.mono HB2.out.size))
  have HFV := Lib.hid (((HF7.out.mono HB8.out).mono HB9.out))
  have hgb3 : ∀ q, (Value.slice qa (addT xs x).length ka).ownBlock = some q → w3.heap.size ≤ q ∧ q < w4.heap.size := fun q hq => World.ownsRow.lt OA.out q hq
  have hgb4 : ∀ q, (Value.slice qb (dropT xs x.key eff).length kb).ownBlock = some q → w4.heap.size ≤ q ∧ q < w5.heap.size := fun q hq => World.ownsRow.lt OB.out q hq
  have HG3 := Lib.hid hgb3
  have HG4 := Lib.hid hgb4
  have hV3 : w3.heap.size ≤ V.heap.size := HBV.out.size
  have hV4 : w4.heap.size ≤ V.heap.size := by omega
  have HI9 := Lib.hid (HI.out.mono HBV.out)
  have hWw3 := HBW.out.size
  have h34 := HB4.out.size
  clear hgb3 hgb4 hb1 hb2 hb4 hb5 hb6 hb7 hb8 hb9 HX1 HX2 HX3 HX4 HX5 HX7 hz1 hz2 hz3 hz4 hz5 hz6 hz7 hz8 hz9
  go_loopw [11] (fun i wr => ∃ k : Nat, k ≤ (addT xs x).length ∧ i = .int .i64 k ∧ (∃ us, wr.ownsRow w3.heap.size 30 3 (Value.slice qa (addT xs x).length ka) (addT xs x).length us) ∧ V.grownBy wr ((Value.slice qa (addT xs x).length ka)).ownBlock) (fun i _ => (addT xs x).length - (intOf i).toNat)
  case atStart => exact ⟨0, Nat.zero_le _, rfl, ⟨_, OAV.out⟩, World.grownBy.refl V _⟩
  case round =>
    obtain ⟨k, hk, rfl, ⟨us, hus⟩, hgb⟩ := hrel
    have Hus := Lib.hid hus
    have Hgb := Lib.hid hgb
    clear hus hgb
    by_cases hlt : k < (addT xs x).length
    · skip
      obtain ⟨g, cap9, e9, hg9, hgl⟩ := World.ownsRow.form Hus.out (by omega)
      simp only [Value.slice.injEq, true_and] at e9
      obtain ⟨e8, e9⟩ := e9
      subst e8
      subst e9
      have hst := World.ownsRow.stored Hus.out (k * 3 + 2) (.int .i64 99)
      obtain ⟨uc, hcell⟩ := own_cell Hus.out (k * 3 + 2) (by omega)
      have hfz := World.ownsRow.frozenAt Hus.out (k * 3 + 2)
      have Hst := Lib.hid hst
      clear hst
      go_wp2
      go_roundw
      case rel => exact ⟨k + 1, by omega, by go_num, ⟨_, Hst.out.1⟩, Hgb.out.trans Hst.out.2⟩
      case measure => simp [intOf]; omega
    · obtain rfl : k = (addT xs x).length := by omega
      have hgs := Hgb.out.size
      have OB2 := Lib.hid (World.ownsRow.kept OBV.out Hgb.out (by
        cases h1 : (Value.slice qb (dropT xs x.key eff).length kb).ownBlock with
        | none => exact .inl rfl
        | some q =>
          refine .inr fun h2 => ?_
          have t1 := HG3.out q h2.symm
          have t2 := HG4.out q h1
          omega))
      have HB10 := Lib.hid (show Below w3.heap.size V wr from Below.grown (Below.refl _ _) Hgb.out hV3 fun q hq => (HG3.out q hq).1)
      have hsz10 := HB10.out.size
      clear Hus Hgb hgs
      obtain ⟨V2, hV9⟩ : ∃ W9, W9 = wr := ⟨_, rfl⟩
      subst hV9
      go_wp2
      go_loopw [12] (fun i wr => ∃ k : Nat, k ≤ (dropT xs x.key eff).length ∧ i = .int .i64 k ∧ (∃ us, wr.ownsRow w4.heap.size 30 3 (Value.slice qb (dropT xs x.key eff).length kb) (dropT xs x.key eff).length us) ∧ V2.grownBy wr ((Value.slice qb (dropT xs x.key eff).length kb)).ownBlock) (fun i _ => (dropT xs x.key eff).length - (intOf i).toNat)
      case atStart => exact ⟨0, Nat.zero_le _, rfl, ⟨_, OB2.out⟩, World.grownBy.refl V2 _⟩
      case round =>
        obtain ⟨k, hk, rfl, ⟨us, hus⟩, hgb⟩ := hrel
        have Hus := Lib.hid hus
        have Hgb := Lib.hid hgb
        clear hus hgb
        by_cases hlt : k < (dropT xs x.key eff).length
        · skip
          obtain ⟨g, cap9, e9, hg9, hgl⟩ := World.ownsRow.form Hus.out (by omega)
          simp only [Value.slice.injEq, true_and] at e9
          obtain ⟨e8, e9⟩ := e9
          subst e8
          subst e9
          have hst := World.ownsRow.stored Hus.out (k * 3 + 2) (.int .i64 99)
          obtain ⟨uc, hcell⟩ := own_cell Hus.out (k * 3 + 2) (by omega)
          have hfz := World.ownsRow.frozenAt Hus.out (k * 3 + 2)
          have Hst := Lib.hid hst
          clear hst
          go_wp2
          go_roundw
          case rel => exact ⟨k + 1, by omega, by go_num, ⟨_, Hst.out.1⟩, Hgb.out.trans Hst.out.2⟩
          case measure => simp [intOf]; omega
        · obtain rfl : k = (dropT xs x.key eff).length := by omega
          have HB11 := Lib.hid (show Below w3.heap.size V2 wr from Below.grown (Below.refl _ _) Hgb.out (by omega) fun q hq => by have := HG4.out q hq; omega)
          have HBZ := Lib.hid (show Below w3.heap.size w3 wr from HBV.out.trans (HB10.out.trans HB11.out))
          have HZ := Lib.hid (show Below w.heap.size w wr from HBW.out.trans (HBZ.out.mono hWw3))
          have HIZ := Lib.hid (HI.out.mono HBZ.out)
          have HFZ := Lib.hid (HF0.out.mono HZ.out)
          have hzZ := HZ.out.size
          clear Hus Hgb
          obtain ⟨V3, hV9⟩ : ∃ W9, W9 = wr := ⟨_, rfl⟩
          subst hV9
          go_wp2_with (first
            | (go_at_call 13; (with_reducible refine (same_any s1 c k1 kc xs xs _ HIZ.out HFZ.out hm6 hm6).mono ?_); rw [kvS]; rintro e w7 ⟨rfl, hb7⟩; have hz7 := hb7.size)
            | (go_at_call 9; (with_reducible refine (known_any _).mono ?_); rintro e w8 ⟨rfl, hb8⟩))
          go_ret
          exact ⟨rfl, HZ.out.trans (by (repeat' (first | with_reducible exact Below.refl _ _ | with_reducible assumption | with_reducible refine Below.drew ?_ | with_reducible refine below_drewN' ?_ _ | with_reducible refine Below.alloc ?_ ?_ _ | with_reducible refine Below.setCell ?_ ?_ _ | with_reducible refine below_step (by assumption) ?_ ?_ | omega | (simp; done) | (simp; omega))))⟩

theorem walk {H : Type} {enc : TypeId × Value → H} {W : World} {base : Nat} {v u : Value} {d f : DataW H} {p q : List MemPlace} (N : Int)
    (hv : Value.okWide Try.prog W .any base 23 v) (h : DataW.Trod enc Try.prog W 0 (fun _ => true) true 23 v d p)
    (hu : Value.okWide Try.prog W .any base 30 u) (k : DataW.Trod enc Try.prog W 0 (fun _ => true) true 30 u f q) :
    Calls Try.prog 5 #[v, u, .int .i64 N] W fun e W' => e = .returned (.bool true) ∧ Below W.heap.size W W' := by
  obtain ⟨c, xs, kc, rfl, hok, hF, hm, _⟩ := open_tnts hv h
  obtain ⟨x, rfl⟩ := open_tnt hu k
  cases h1 : lightB [] xs
  · exact walk_no c kc xs x N W hF hm (.inl h1)
  · cases h2 : lightB [] [x]
    · exact walk_no c kc xs x N W hF hm (.inr ⟨h1, h2⟩)
    · have h3 := h1
      unfold lightB at h3
      rw [Bool.and_eq_true, decide_eq_true_eq] at h3
      exact walk_yes c kc xs x N W hF hok h3.1.2 h1 h2

set_option maxRecDepth 100000 in
theorem lifted (os : Os) (started : os.Started) (H : Type) (enc : TypeId × Value → H) :
    ReturnsInHanded {} Try.checked os 5 .any (Rows.taintsAddSpec.pre6 enc Try.prog Try.f5 Rows.taintsAddRow.domain false) (Rows.taintsAddSpec.post enc Try.prog Try.f5 false true false false) := by
  refine returnsInHanded_of_change (C := Try.checked) Try.own started (by kernel_rfl) Try.func5
    (ChangeSpec.witness6 (enc := enc) (C := Try.checked) false ⟨#[], #[.slice none 0 0, .agg #[.string ⟨#[]⟩, .string ⟨#[]⟩, .int .i64 0], .int .i64 0], []⟩ 8 (by kernel_rfl) (by kernel_rfl) (by kernel_rfl) (by kernel_rfl)) ?_
  intro W base args ds gs before hval hW _ _
  have hW' := hW
  obtain ⟨p, q, hA, hV, rfl, hfz, hnd⟩ := hW
  rw [Try.params5] at hA hval
  obtain ⟨v0, v1, v2, d0, d1, d2, p0, p1, p2, rfl, rfl, rfl, h0, h1, h2⟩ := trodAll_three hA
  obtain ⟨n, rfl, _, _, w2⟩ := open_int Try.underlying3 (hval 2 3 v2 rfl rfl) h2
  refine (walk n (hval 0 23 v0 rfl rfl) h0 (hval 1 30 v1 rfl rfl) h1).mono fun e W' ⟨he, hb⟩ => ?_
  exact ⟨_, he, law_post Try.laidOut hW' rfl (by kernel_rfl) (by kernel_rfl) Try.underlying4 rfl rfl rfl hb⟩

theorem over : Rows.taintsAddRow.holds Try.pinned (OpenSpec.ofChange Rows.taintsAddSpec) :=
  OpenClaim.holds_of_wide 5 Try.f5 rfl rfl rfl rfl rfl rfl rfl ⟨rfl, rfl, rfl, rfl, rfl⟩ rfl rfl rfl rfl rfl (by kernel_rfl) Try.func5 (by kernel_rfl)
    (of_decide_eq_true (by kernel_rfl)) (by unfold Func.isWrapper; first | (rw [if_pos (by decide +kernel)]; kernel_rfl) | (rw [if_neg (by decide +kernel)]; exact ⟨rfl, rfl⟩))
    (fun os started H enc _ => lifted os started H enc)

/-- The statement. -/
theorem proved : Rows.TaintsAddSaid := over
end taintsAdd
end Go.Proofs.Ytlfjjiepclphiaa
