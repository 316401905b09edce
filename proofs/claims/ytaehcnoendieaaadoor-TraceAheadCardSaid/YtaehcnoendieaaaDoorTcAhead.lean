/-
  TraceAhead: what stands ahead of an event that can't be so can; with events behind it the first one that can't stays so.
-/
import Derived.Test.YtaehcnoendieaaaDoorTcOp
import Derived.Test.YtaehcnoendieaaaDoorTcM
namespace Go.Proofs.YtaehcnoendieaaaDoor
open Go.ChangeShapes Go.WideShapes Go.ChangeAt Go.RowKit
set_option linter.unusedVariables false
set_option linter.unusedSimpArgs false
namespace traceAhead

theorem bad_take {l : List Ev} {m j : Nat} (hj : j < m) (hm : m ≤ l.length) : badI (l.take m) j = badI l j := by
  have h1 : (l.take m)[j]? = l[j]? := by rw [List.getElem?_take, if_pos hj]
  have h2 : (l.take m).getD (j - 1) zeroE = l.getD (j - 1) zeroE := by rw [List.getD_eq_getElem?_getD, List.getD_eq_getElem?_getD, List.getElem?_take, if_pos (by omega)]
  have h3 : (l.take m).take j = l.take j := by rw [List.take_take, Nat.min_eq_left (by omega)]
  unfold badI
  rw [h1, h2, h3]
theorem bad_app {l more : List Ev} {j : Nat} (hj : j < l.length) : badI (l ++ more) j = badI l j := by
  have h1 : (l ++ more)[j]? = l[j]? := List.getElem?_append_left hj
  have h2 : (l ++ more).getD (j - 1) zeroE = l.getD (j - 1) zeroE := by rw [List.getD_eq_getElem?_getD, List.getD_eq_getElem?_getD, List.getElem?_append_left (by omega)]
  have h3 : (l ++ more).take j = l.take j := List.take_append_of_le_length (by omega)
  unfold badI
  rw [h1, h2, h3]
theorem check_cases (l : List Ev) : (checkB l = -1 ∧ ∀ j, j < l.length → badI l j = false) ∨ ∃ i : Nat, i < l.length ∧ checkB l = i ∧ badI l i = true ∧ ∀ j, j < i → badI l j = false := by
  cases hf : (List.range l.length).find? (badI l) with
  | none =>
    left
    have h := List.find?_range_eq_none.1 hf
    have h2 : ∀ j, j < l.length → badI l j = false := fun j hj => by simpa using h j hj
    exact ⟨check_no h2, h2⟩
  | some i =>
    right
    obtain ⟨h1, h2, h3⟩ := List.find?_range_eq_some.1 hf
    have hi : i < l.length := by simpa using h2
    have h4 : ∀ j, j < i → badI l j = false := fun j hj => by simpa using h3 j hj
    exact ⟨i, hi, check_yes hi h1 h4, h1, h4⟩
theorem ahead_take {l : List Ev} {i : Nat} (hi : i ≤ l.length) (hn : ∀ j, j < i → badI l j = false) : checkB (l.take i) = -1 :=
  check_no fun j hj => by
    rw [List.length_take] at hj
    rw [bad_take (by omega) hi]
    exact hn j (by omega)
theorem ahead_one {l : List Ev} {i : Nat} (hi : i < l.length) (hb : badI l i = true) (hn : ∀ j, j < i → badI l j = false) : checkB (l.take (i + 1)) = i :=
  check_yes (by rw [List.length_take]; omega) (by rw [bad_take (by omega) hi]; exact hb) fun j hj => by rw [bad_take (by omega) hi]; exact hn j hj
theorem ahead_app {l more : List Ev} {i : Nat} (hi : i < l.length) (hb : badI l i = true) (hn : ∀ j, j < i → badI l j = false) : checkB (l ++ more) = i :=
  check_yes (by rw [List.length_append]; omega) (by rw [bad_app hi]; exact hb) fun j hj => by rw [bad_app (by omega)]; exact hn j hj
theorem ahead_no {l more : List Ev} (hn : ∀ j, j < l.length → badI l j = false) : checkB (l ++ more) = -1 ∨ ((l.length : Int) ≤ checkB (l ++ more) ∧ checkB (l ++ more) ≠ -1) := by
  rcases check_cases (l ++ more) with ⟨h, _⟩ | ⟨i, hi, h, hb, _⟩
  · exact .inl h
  · right
    rw [h]
    have : l.length ≤ i := by
      rcases Nat.lt_or_ge i l.length with h1 | h1
      · rw [bad_app h1, hn i h1] at hb; cases hb
      · exact h1
    omega
theorem own_empty (w : World) (t : TypeId) : (w.alloc (.cells #[] t)).ownsRow w.heap.size t 4 (.slice (some ⟨w.heap.size, 0, none⟩) 0 0) 0 [] :=
  ⟨rfl, .inr ⟨w.heap.size, 0, #[], rfl, Nat.le_refl _, Blk.new w t [], Nat.le_refl _, Nat.zero_le _, rfl, rfl⟩⟩
set_option maxRecDepth 100000 in
set_option maxHeartbeats 8000000 in
theorem walk (l more : List Ev) (a a2 : Option Addr) (c c2 : Nat) (w : World) (hF : EvL w a l) (hF2 : EvL w a2 more) (hl : l.length ≤ maxLen) (hl2 : more.length ≤ maxLen) (hT : Tab10 w) (hM : MaxAt w) :
    Calls Tryd.prog 6 #[.slice a l.length c, .slice a2 more.length c2] w fun e w' => e = .returned (.bool true) ∧ Below w.heap.size w w' := by
  have HK := Lib.hid (fun (V : World) (hV : Below w.heap.size w V) => known_any V (hT.mono hV) (hM.mono hV))
  have HLt := Lib.hid (light_any l a c w hF hl)
  have HLt2 := Lib.hid (fun (V : World) (hV : Below w.heap.size w V) => light_any more a2 c2 V (hF2.mono hV) hl2)
  cases hlt : lightB l
  · rw [hlt] at HLt
    clear hT hM hlt
    go_enter Tryd.func6, Tryd.ntmps6
    go_wp2_with (first
      | (go_at_call 12; (with_reducible refine HLt.out.mono ?_); rintro rr w1 ⟨rfl, hb1⟩)
      | (go_at_call 7; (with_reducible refine (HK.out _ hb1).mono ?_); rintro rr w5 ⟨rfl, hb5⟩))
    go_ret
    exact ⟨rfl, hb1.trans (hb5.mono hb1.size)⟩
  obtain ⟨h60, -⟩ := light_short hlt
  rw [hlt] at HLt
  cases hlt2 : lightB more
  · rw [hlt2] at HLt2
    clear hT hM hlt hlt2
    go_enter Tryd.func6, Tryd.ntmps6
    go_wp2_with (first
      | (go_at_call 12; (with_reducible refine HLt.out.mono ?_); rintro rr w1 ⟨rfl, hb1⟩)
      | (go_at_call 12; (with_reducible refine (HLt2.out _ hb1).mono ?_); rintro rr w2 ⟨rfl, hb2⟩; have hb12 := hb1.trans (hb2.mono hb1.size))
      | (go_at_call 7; (with_reducible refine (HK.out _ hb12).mono ?_); rintro rr w5 ⟨rfl, hb5⟩))
    go_ret
    exact ⟨rfl, hb12.trans (hb5.mono hb12.size)⟩
  obtain ⟨m60, -⟩ := light_short hlt2
  rw [hlt2] at HLt2
  have HG := Lib.hid (fun (V : World) (hV : Below w.heap.size w V) => given_any l a c V (hF.mono hV) (by omega))
  have HG2 := Lib.hid (fun (V : World) (hV : Below w.heap.size w V) => given_any more a2 c2 V (hF2.mono hV) (by omega))
  obtain ⟨n, hn⟩ : ∃ n, l.length = n := ⟨_, rfl⟩
  obtain ⟨m, hm⟩ : ∃ m, more.length = m := ⟨_, rfl⟩
  have HN := Lib.hid hn
  have HM := Lib.hid hm
  have HCC := Lib.hid (check_cases l)
  obtain ⟨i0, hi, hz0, hz1, hz2⟩ := info_parts Tryd.info37
  have Hi := Lib.hid hi
  have Hz0 := Lib.hid hz0
  have Hz1 := Lib.hid hz1
  have Hz2 := Lib.hid hz2
  clear hi hz0 hz1 hz2
  rw [hn] at HLt h60 HG ⊢
  rw [hm] at HLt2 m60 HG2 ⊢
  clear hT hM hlt hlt2 hF hF2 hn hm hl hl2
  have Hnl := Lib.hid (show (l.flatMap evrow).length = n * 4 by rw [rows_length evrow 4 ev_len l, HN.out])
  have Hml := Lib.hid (show (more.flatMap evrow).length = m * 4 by rw [rows_length evrow 4 ev_len more, HM.out])
  have Hlm := Lib.hid (show (l ++ more).length = n + m by rw [List.length_append, HN.out, HM.out])
  rcases HCC.out with ⟨hq, hno⟩ | ⟨i, hi, hq, hbad, hno⟩
  · have HQ := Lib.hid hq
    have hK := ahead_no (more := more) hno
    rw [HN.out] at hK
    have HCk := Lib.hid (fun (p : Option Addr) (kk : Nat) (V : World) (h : EvL V p (l ++ more)) => check_any (l ++ more) p kk V h (by rw [Hlm.out]; omega))
    rw [Hlm.out] at HCk
    obtain ⟨κ, hκ⟩ : ∃ κ, checkB (l ++ more) = κ := ⟨_, rfl⟩
    rw [hκ] at hK HCk
    clear HCC hno hq hκ
    rcases hK with hK | ⟨hK, hK2⟩
    · subst hK
      go_enter Tryd.func6, Tryd.ntmps6
      go_wp2_with (first
        | (go_at_call 12; (with_reducible refine HLt.out.mono ?_); rintro rr w1 ⟨rfl, hb1⟩) | (go_at_call 12; (with_reducible refine (HLt2.out _ hb1).mono ?_); rintro rr w2 ⟨rfl, hb2⟩; have hb12 := hb1.trans (hb2.mono hb1.size)) | (go_at_call 13; (with_reducible refine (HG.out _ hb12).mono ?_); rintro rr w3 ⟨⟨v3, rfl, hv⟩, hb3⟩; obtain ⟨ag, kg, rfl, hnil3, hx⟩ := OwnL.isL ev_len (by decide) hv; have hcap := cap_le hv; rw [HN.out] at hcap hnil3 ⊢; have HX3 := Lib.hid hx; have HNil3 := Lib.hid hnil3; have hb13 := hb12.trans (hb3.mono hb12.size); clear hv hx hnil3) | (go_at_call 20; have hk9 := check_any l ag kg w3 HX3.out (by rw [HN.out]; omega); rw [HN.out, HQ.out] at hk9; (with_reducible refine hk9.mono ?_); rintro rr w4 ⟨rfl, hb4⟩; have HB14 := Lib.hid (hb13.trans (hb4.mono hb13.size)); have HX4 := Lib.hid (HX3.out.mono hb4); have HE4 := Lib.hid (own_empty w4 37); have HA4 := Lib.hid ((Below.refl w4.heap.size w4).alloc (Nat.le_refl _) (.cells #[] 37)); clear hk9 hb1 hb2 hb3 hb4 hb12 hb13) | (at_builtin; refine wpList_append_src rfl (.tmp 22) (.tmp 23) 23 rfl w4.heap.size 37 i0 _ 4 48 Tryd.underlying23 Hi.out Hz0.out Hz1.out Hz2.out rfl (by decide) _ 0 [] rfl HE4.out ag n kg (l.flatMap evrow) rfl Hnl.out (RowsAt.news ev_len (HX4.out.mono HA4.out)) HNil3.out (flat_ones ev_one l) (by unfold maxLen; omega) (by omega) HA4.out.size ?_; intro v5 w5 hown5 hgrow5; rw [Nat.zero_add, List.nil_append] at hown5; have HB5 := Lib.hid (own_below HE4.out HA4.out HA4.out.size hgrow5); have HO5 := Lib.hid hown5; clear hown5 hgrow5) | (go_at_call 13; (with_reducible refine (HG2.out _ (HB14.out.trans (HB5.out.mono HB14.out.size))).mono ?_); rintro rr w6 ⟨⟨v6, rfl, hv⟩, hb6⟩; obtain ⟨ag6, kg6, rfl, hnil6, hx⟩ := OwnL.isL ev_len (by decide) hv; rw [HM.out] at hnil6 ⊢; have HX6 := Lib.hid hx; have HNil6 := Lib.hid hnil6; have HO6 := Lib.hid (own_kept HO5.out hb6); have HB6 := Lib.hid (HB5.out.trans (hb6.mono HB5.out.size)); clear hv hx hnil6 hb6) | (at_builtin; refine wpList_append_src rfl (.tmp 25) (.tmp 27) 23 rfl w4.heap.size 37 i0 _ 4 48 Tryd.underlying23 Hi.out Hz0.out Hz1.out Hz2.out rfl (by decide) _ n (l.flatMap evrow) rfl HO6.out ag6 m kg6 (more.flatMap evrow) rfl Hml.out (RowsAt.news ev_len HX6.out) HNil6.out (flat_ones ev_one more) (by unfold maxLen; omega) (by omega) HB6.out.size ?_; intro v7 w7 hown7 hgrow7; have HB7 := Lib.hid (own_below HO6.out HB6.out HB6.out.size hgrow7); rw [← List.flatMap_append, ← Hlm.out] at hown7; obtain ⟨a7, k7, rfl, -, hx7⟩ := OwnL.isL ev_len (by decide) (show OwnL evrow 4 w4.heap.size 37 (l ++ more) _ w7 from hown7); rw [Hlm.out]; have HX7 := Lib.hid hx7; have HG7 := Lib.hid (HX4.out.mono HB7.out); have HW7 := Lib.hid (HB14.out.trans (HB7.out.mono HB14.out.size)); have hhave7 : 0 ≤ n + m := (Nat.zero_le _); clear hown7 hgrow7 hx7)
        | (go_at_call 20; (with_reducible refine (HCk.out _ _ _ HX7.out).mono ?_); rintro rr w8 ⟨rfl, hb8⟩; have HW8 := Lib.hid (HW7.out.trans (hb8.mono HW7.out.size)); clear hb8)
        | (go_at_call 7; (with_reducible refine (HK.out _ HW8.out).mono ?_); rintro rr w9 ⟨rfl, hb9⟩; have HW9 := Lib.hid (HW8.out.trans (hb9.mono HW8.out.size)); clear hb9))
      go_ret
      exact ⟨rfl, HW9.out⟩
    · have j1 : (κ == -1) = false := by rw [beq_eq_false_iff_ne]; exact hK2
      have j2 : decide ((n : Int) ≤ κ) = true := decide_eq_true hK
      clear hK hK2
      go_enter Tryd.func6, Tryd.ntmps6
      go_wp2_with (first
        | (go_at_call 12; (with_reducible refine HLt.out.mono ?_); rintro rr w1 ⟨rfl, hb1⟩) | (go_at_call 12; (with_reducible refine (HLt2.out _ hb1).mono ?_); rintro rr w2 ⟨rfl, hb2⟩; have hb12 := hb1.trans (hb2.mono hb1.size)) | (go_at_call 13; (with_reducible refine (HG.out _ hb12).mono ?_); rintro rr w3 ⟨⟨v3, rfl, hv⟩, hb3⟩; obtain ⟨ag, kg, rfl, hnil3, hx⟩ := OwnL.isL ev_len (by decide) hv; have hcap := cap_le hv; rw [HN.out] at hcap hnil3 ⊢; have HX3 := Lib.hid hx; have HNil3 := Lib.hid hnil3; have hb13 := hb12.trans (hb3.mono hb12.size); clear hv hx hnil3) | (go_at_call 20; have hk9 := check_any l ag kg w3 HX3.out (by rw [HN.out]; omega); rw [HN.out, HQ.out] at hk9; (with_reducible refine hk9.mono ?_); rintro rr w4 ⟨rfl, hb4⟩; have HB14 := Lib.hid (hb13.trans (hb4.mono hb13.size)); have HX4 := Lib.hid (HX3.out.mono hb4); have HE4 := Lib.hid (own_empty w4 37); have HA4 := Lib.hid ((Below.refl w4.heap.size w4).alloc (Nat.le_refl _) (.cells #[] 37)); clear hk9 hb1 hb2 hb3 hb4 hb12 hb13) | (at_builtin; refine wpList_append_src rfl (.tmp 22) (.tmp 23) 23 rfl w4.heap.size 37 i0 _ 4 48 Tryd.underlying23 Hi.out Hz0.out Hz1.out Hz2.out rfl (by decide) _ 0 [] rfl HE4.out ag n kg (l.flatMap evrow) rfl Hnl.out (RowsAt.news ev_len (HX4.out.mono HA4.out)) HNil3.out (flat_ones ev_one l) (by unfold maxLen; omega) (by omega) HA4.out.size ?_; intro v5 w5 hown5 hgrow5; rw [Nat.zero_add, List.nil_append] at hown5; have HB5 := Lib.hid (own_below HE4.out HA4.out HA4.out.size hgrow5); have HO5 := Lib.hid hown5; clear hown5 hgrow5) | (go_at_call 13; (with_reducible refine (HG2.out _ (HB14.out.trans (HB5.out.mono HB14.out.size))).mono ?_); rintro rr w6 ⟨⟨v6, rfl, hv⟩, hb6⟩; obtain ⟨ag6, kg6, rfl, hnil6, hx⟩ := OwnL.isL ev_len (by decide) hv; rw [HM.out] at hnil6 ⊢; have HX6 := Lib.hid hx; have HNil6 := Lib.hid hnil6; have HO6 := Lib.hid (own_kept HO5.out hb6); have HB6 := Lib.hid (HB5.out.trans (hb6.mono HB5.out.size)); clear hv hx hnil6 hb6) | (at_builtin; refine wpList_append_src rfl (.tmp 25) (.tmp 27) 23 rfl w4.heap.size 37 i0 _ 4 48 Tryd.underlying23 Hi.out Hz0.out Hz1.out Hz2.out rfl (by decide) _ n (l.flatMap evrow) rfl HO6.out ag6 m kg6 (more.flatMap evrow) rfl Hml.out (RowsAt.news ev_len HX6.out) HNil6.out (flat_ones ev_one more) (by unfold maxLen; omega) (by omega) HB6.out.size ?_; intro v7 w7 hown7 hgrow7; have HB7 := Lib.hid (own_below HO6.out HB6.out HB6.out.size hgrow7); rw [← List.flatMap_append, ← Hlm.out] at hown7; obtain ⟨a7, k7, rfl, -, hx7⟩ := OwnL.isL ev_len (by decide) (show OwnL evrow 4 w4.heap.size 37 (l ++ more) _ w7 from hown7); rw [Hlm.out]; have HX7 := Lib.hid hx7; have HG7 := Lib.hid (HX4.out.mono HB7.out); have HW7 := Lib.hid (HB14.out.trans (HB7.out.mono HB14.out.size)); have hhave7 : 0 ≤ n + m := (Nat.zero_le _); clear hown7 hgrow7 hx7)
        | (go_at_call 20; (with_reducible refine (HCk.out _ _ _ HX7.out).mono ?_); rintro rr w8 ⟨rfl, hb8⟩; have HW8 := Lib.hid (HW7.out.trans (hb8.mono HW7.out.size)); clear hb8)
        | (go_at_call 7; (with_reducible refine (HK.out _ HW8.out).mono ?_); rintro rr w9 ⟨rfl, hb9⟩; have HW9 := Lib.hid (HW8.out.trans (hb9.mono HW8.out.size)); clear hb9))
      go_ret
      exact ⟨rfl, HW9.out⟩
  · have HQ := Lib.hid hq
    have hC1 := fun (p : Option Addr) (kk : Nat) (V : World) (h : EvL V p (l.take i)) => check_any (l.take i) p kk V h (by rw [List.length_take]; have := HN.out; omega)
    have hC2 := fun (p : Option Addr) (kk : Nat) (V : World) (h : EvL V p (l.take (i + 1))) => check_any (l.take (i + 1)) p kk V h (by rw [List.length_take]; have := HN.out; omega)
    have hC3 := fun (p : Option Addr) (kk : Nat) (V : World) (h : EvL V p (l ++ more)) => check_any (l ++ more) p kk V h (by rw [Hlm.out]; omega)
    rw [show (l.take i).length = i by rw [List.length_take]; omega, ahead_take (Nat.le_of_lt hi) hno] at hC1
    rw [show (l.take (i + 1)).length = i + 1 by rw [List.length_take]; omega, ahead_one hi hbad hno] at hC2
    rw [Hlm.out, ahead_app hi hbad hno] at hC3
    have HC1 := Lib.hid hC1
    have HC2 := Lib.hid hC2
    have HC3 := Lib.hid hC3
    rw [HN.out] at hi
    have j0 : decide ((i : Int) < 0) = false := decide_eq_false (by omega)
    have j1 : decide ((n : Int) ≤ (i : Int)) = false := decide_eq_false (by omega)
    have j2 : IntKind.i64.wrap ((i : Int) + 1) = (i : Int) + 1 := wrap_in (by omega) (by omega)
    clear HCC hno hq hbad hC1 hC2 hC3
    go_enter Tryd.func6, Tryd.ntmps6
    go_wp2_with (first
      | (go_at_call 12; (with_reducible refine HLt.out.mono ?_); rintro rr w1 ⟨rfl, hb1⟩) | (go_at_call 12; (with_reducible refine (HLt2.out _ hb1).mono ?_); rintro rr w2 ⟨rfl, hb2⟩; have hb12 := hb1.trans (hb2.mono hb1.size)) | (go_at_call 13; (with_reducible refine (HG.out _ hb12).mono ?_); rintro rr w3 ⟨⟨v3, rfl, hv⟩, hb3⟩; obtain ⟨ag, kg, rfl, hnil3, hx⟩ := OwnL.isL ev_len (by decide) hv; have hcap := cap_le hv; rw [HN.out] at hcap hnil3 ⊢; have HX3 := Lib.hid hx; have HNil3 := Lib.hid hnil3; have hb13 := hb12.trans (hb3.mono hb12.size); clear hv hx hnil3) | (go_at_call 20; have hk9 := check_any l ag kg w3 HX3.out (by rw [HN.out]; omega); rw [HN.out, HQ.out] at hk9; (with_reducible refine hk9.mono ?_); rintro rr w4 ⟨rfl, hb4⟩; have HB14 := Lib.hid (hb13.trans (hb4.mono hb13.size)); have HX4 := Lib.hid (HX3.out.mono hb4); have HE4 := Lib.hid (own_empty w4 37); have HA4 := Lib.hid ((Below.refl w4.heap.size w4).alloc (Nat.le_refl _) (.cells #[] 37)); clear hk9 hb1 hb2 hb3 hb4 hb12 hb13) | (at_builtin; refine wpList_append_src rfl (.tmp 22) (.tmp 23) 23 rfl w4.heap.size 37 i0 _ 4 48 Tryd.underlying23 Hi.out Hz0.out Hz1.out Hz2.out rfl (by decide) _ 0 [] rfl HE4.out ag n kg (l.flatMap evrow) rfl Hnl.out (RowsAt.news ev_len (HX4.out.mono HA4.out)) HNil3.out (flat_ones ev_one l) (by unfold maxLen; omega) (by omega) HA4.out.size ?_; intro v5 w5 hown5 hgrow5; rw [Nat.zero_add, List.nil_append] at hown5; have HB5 := Lib.hid (own_below HE4.out HA4.out HA4.out.size hgrow5); have HO5 := Lib.hid hown5; clear hown5 hgrow5) | (go_at_call 13; (with_reducible refine (HG2.out _ (HB14.out.trans (HB5.out.mono HB14.out.size))).mono ?_); rintro rr w6 ⟨⟨v6, rfl, hv⟩, hb6⟩; obtain ⟨ag6, kg6, rfl, hnil6, hx⟩ := OwnL.isL ev_len (by decide) hv; rw [HM.out] at hnil6 ⊢; have HX6 := Lib.hid hx; have HNil6 := Lib.hid hnil6; have HO6 := Lib.hid (own_kept HO5.out hb6); have HB6 := Lib.hid (HB5.out.trans (hb6.mono HB5.out.size)); clear hv hx hnil6 hb6) | (at_builtin; refine wpList_append_src rfl (.tmp 25) (.tmp 27) 23 rfl w4.heap.size 37 i0 _ 4 48 Tryd.underlying23 Hi.out Hz0.out Hz1.out Hz2.out rfl (by decide) _ n (l.flatMap evrow) rfl HO6.out ag6 m kg6 (more.flatMap evrow) rfl Hml.out (RowsAt.news ev_len HX6.out) HNil6.out (flat_ones ev_one more) (by unfold maxLen; omega) (by omega) HB6.out.size ?_; intro v7 w7 hown7 hgrow7; have HB7 := Lib.hid (own_below HO6.out HB6.out HB6.out.size hgrow7); rw [← List.flatMap_append, ← Hlm.out] at hown7; obtain ⟨a7, k7, rfl, -, hx7⟩ := OwnL.isL ev_len (by decide) (show OwnL evrow 4 w4.heap.size 37 (l ++ more) _ w7 from hown7); rw [Hlm.out]; have HX7 := Lib.hid hx7; have HG7 := Lib.hid (HX4.out.mono HB7.out); have HW7 := Lib.hid (HB14.out.trans (HB7.out.mono HB14.out.size)); have hhave7 : 0 ≤ n + m := (Nat.zero_le _); clear hown7 hgrow7 hx7)
      | (go_at_call 20; (with_reducible refine (HC1.out _ _ _ (HG7.out.taken i)).mono ?_); rintro rr w8 ⟨rfl, hb8⟩; have HG8 := Lib.hid (HG7.out.mono hb8); have HX8 := Lib.hid (HX7.out.mono hb8); have HW8 := Lib.hid (HW7.out.trans (hb8.mono HW7.out.size)); clear hb8)
      | (go_at_call 20; (with_reducible refine (HC2.out _ _ _ (HG8.out.taken (i + 1))).mono ?_); rintro rr w9 ⟨rfl, hb9⟩; have HX9 := Lib.hid (HX8.out.mono hb9); have HW9 := Lib.hid (HW8.out.trans (hb9.mono HW8.out.size)); clear hb9)
      | (go_at_call 20; (with_reducible refine (HC3.out _ _ _ HX9.out).mono ?_); rintro rr w10 ⟨rfl, hb10⟩; have HW10 := Lib.hid (HW9.out.trans (hb10.mono HW9.out.size)); clear hb10)
      | (go_at_call 7; (with_reducible refine (HK.out _ HW10.out).mono ?_); rintro rr w11 ⟨rfl, hb11⟩; have HW11 := Lib.hid (HW10.out.trans (hb11.mono HW10.out.size)); clear hb11))
    go_ret
    exact ⟨rfl, HW11.out⟩
set_option maxRecDepth 100000 in
    theorem lifted (os : Os) (started : os.Started) (H : Type) (enc : TypeId × Value → H) :
        ReturnsInHanded {} Tryd.checked os 6 .any (fun w args => (Rows.traceAheadSpec.pre enc Tryd.prog Tryd.f6 Rows.traceAheadRow.domain false w args ∧ laidMetH Tryd.prog Rows.traceAheadRow.laid w) ∧ sizedMet enc Tryd.prog Tryd.f6 (OpenSpec.ofChange Rows.traceAheadSpec) false w args)
          (Rows.traceAheadSpec.post enc Tryd.prog Tryd.f6 false true false false) := by
      refine handed_laid (C := Tryd.checked) (X := fun w _ => laidMetH Tryd.prog Rows.traceAheadRow.laid w) (fun _ _ _ hh h => h.of_heap hh) Tryd.own started (by kernel_rfl) Tryd.func6
        (ChangeSpec.witness_at (enc := enc) (C := Tryd.checked) (os := os) (X := fun w _ => laidMetH Tryd.prog Rows.traceAheadRow.laid w) false (laidWorld os) #[.slice none 0 0, .slice none 0 0] 8 rfl (by kernel_rfl) (by kernel_rfl) (by kernel_rfl) (by kernel_rfl) (by kernel_rfl) (laidWorld_met os _)) ?_
      intro W base args ds gs before hsh hL hval hW
      have hW' := hW
      obtain ⟨p, q, hA, hV, rfl, hfz, hnd⟩ := hW
      rw [Tryd.params6] at hA hval
      obtain ⟨v0, v1, d0, d1, p0, p1, rfl, rfl, rfl, h0, h1⟩ := trodAll_two hA
      obtain ⟨a, l, k, rfl, -, hF, hm, -⟩ := open_evs (hval 0 27 v0 rfl rfl) h0
      obtain ⟨a2, l2, k2, rfl, -, hF2, hm2, -⟩ := open_evs (hval 1 27 v1 rfl rfl) h1
      refine (walk l l2 a a2 k k2 W hF hF2 hm hm2 (tab_of hL) (max_of hsh)).mono fun e W' ⟨he, hb⟩ => ?_
      exact ⟨_, he, law_post Tryd.laidOut hW' rfl (by kernel_rfl) (by kernel_rfl) Tryd.underlying4 rfl rfl rfl hb⟩
    
    theorem over : Rows.TraceAheadSaid :=
      OpenClaim.holds_of_wide 6 Tryd.f6 rfl rfl rfl rfl rfl rfl rfl ⟨rfl, rfl, rfl, rfl, rfl⟩ rfl rfl rfl rfl rfl (by kernel_rfl) Tryd.func6 (by kernel_rfl)
        (of_decide_eq_true (by kernel_rfl)) (by unfold Func.isWrapper; first | (rw [if_pos (by decide +kernel)]; kernel_rfl) | (rw [if_neg (by decide +kernel)]; exact ⟨rfl, rfl⟩))
        (fun os started H enc _ => lifted os started H enc)
    
    /-- The statement: the card. -/
    theorem proved : Rows.TraceAheadCardSaid :=
      Claim7.holds_tied_plain_at .later [] [.data, .data, .data, .data, .pinned] true Rows.traceAheadCard.stood.harness Rows.traceAheadCard.stood.looks
        over (fun _ h => by cases h) (by kernel_rfl) (fun _ h => by cases h) traceAhead_row_tie rfl ⟨rfl, rfl⟩ (by kernel_rfl) rfl
        (fun f fn hf hfn => by
          obtain rfl : f = 6 := Option.some.inj ((show Tryd.prog.funcNamed Rows.traceAheadRow.func = some 6 by kernel_rfl).symm.trans hf) |>.symm
          obtain rfl : fn = Tryd.f6 := (Option.some.inj (Tryd.func6.symm.trans hfn)).symm
          exact ⟨by kernel_rfl, fun j t ht => by
            rw [Tryd.params6] at ht
            rcases j with _ | _ | j
            · obtain rfl : t = 27 := by simpa using ht.symm
              exact (show Tryd.prog.wantsStandIn 27 = false by kernel_rfl)
            · obtain rfl : t = 27 := by simpa using ht.symm
              exact (show Tryd.prog.wantsStandIn 27 = false by kernel_rfl)
            · simp at ht⟩)
        (by kernel_rfl)
end traceAhead
end Go.Proofs.YtaehcnoendieaaaDoor
