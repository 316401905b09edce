/-
  TaintsMore: more tolerations leave no more unborne; a toleration of all leaves none; what was added, and dropped again, is as it was, if it had none of that key. For any tolerations, any taints and any toleration; no condition.
-/
import Derived.Test.YtlfjjiepclphiaaTntM
import Derived.Deep.AppendLies
namespace Go.Proofs.Ytlfjjiepclphiaa
open Go.ChangeShapes Go.WideShapes Go.ChangeAt Go.RowKit
set_option linter.unusedVariables false
namespace taintsMore

theorem rows_of {α : Type} {enc : α → List Value} {K : Nat} {l : List α} {a : Option Addr} {k n : Nat} {w : World} (h : IsL enc K l (.slice a n k) w) : RowsAt enc K w a l := by
  obtain ⟨a', k', e, _, hr⟩ := h
  simp only [Value.slice.injEq] at e
  rw [e.1]
  exact hr
def fresh : ByteArray := ⟨#[102, 114, 101, 115, 104]⟩
def yF : Tnt := ⟨fresh, ⟨#[]⟩, 1⟩
theorem unb0 (l : List Tol) (xs : List Tnt) : unborneL l xs 0 = xs.filter fun x => !borneB l x := by
  have h : leftB l 0 = fun x => !borneB l x := by funext x; simp [leftB]
  unfold unborneL
  rw [h]
theorem more_sub (l : List Tol) (t : Tol) (xs : List Tnt) : (unborneL (l ++ [t]) xs 0).Sublist (unborneL l xs 0) := by
  rw [unb0, unb0]
  have e : (xs.filter fun x => !borneB (l ++ [t]) x) = (xs.filter fun x => !borneB l x).filter fun x => !bearsB t x := by
    rw [List.filter_filter]
    congr 1
    funext x
    unfold borneB
    rw [List.any_append]
    simp [Bool.and_comm]
  rw [e]
  exact List.filter_sublist
theorem more_not (l : List Tol) (t : Tol) (xs : List Tnt) {x : Tnt} (h : x ∈ unborneL (l ++ [t]) xs 0) : bearsB t x = false := by
  rw [unb0, List.mem_filter] at h
  have h2 := h.2
  unfold borneB at h2
  rw [List.any_append] at h2
  simp at h2
  exact h2.2
theorem all_none (xs : List Tnt) : unborneL [t1] xs 0 = [] := by
  rw [unb0, List.filter_eq_nil_iff]
  intro x _
  have : borneB [t1] x = true := by
    unfold borneB bearsB
    simp [t1, emp]
  simp [this]
theorem all_allows (xs : List Tnt) : allowsB [t1] xs = true := by
  unfold allowsB unborneL
  have h : ∀ e : Int, xs.filter (leftB [t1] e) = [] := fun e => by
    rw [List.filter_eq_nil_iff]
    intro x _
    have : borneB [t1] x = true := by
      unfold borneB bearsB
      simp [t1, emp]
    simp [leftB, this]
  rw [h, h]
  rfl
theorem add_drop {xs : List Tnt} (h : xs.all (fun x => !decide (x.key = fresh)) = true) : dropT (addT xs yF) fresh 0 = xs := by
  have h' : ∀ x ∈ xs, ¬ x.key = fresh := fun x hx => by
    have := List.all_eq_true.1 h x hx
    simpa using this
  unfold dropT addT
  rw [List.filter_append, List.filter_filter]
  have e1 : xs.filter (fun a => dropB fresh 0 a && slotB yF.key yF.eff a) = xs := by
    rw [List.filter_eq_self]
    intro x hx
    have := h' x hx
    simp [dropB, slotB, yF, this]
  have e2 : [yF].filter (dropB fresh 0) = [] := by
    rw [List.filter_eq_nil_iff]
    intro x hx
    obtain rfl : x = yF := by simpa using hx
    simp [dropB, yF]
  rw [e1, e2, List.append_nil]
theorem sub_cons {x y : Tnt} {l m : List Tnt} (h : (y :: m).Sublist (x :: l)) (hne : x ≠ y) : (y :: m).Sublist l := by
  cases h with
  | cons _ h => exact h
  | cons_cons _ h => exact absurd rfl hne
theorem sub_next {la bs : List Tnt} {i at' : Nat} {x y : Tnt} (h : (bs.drop i).Sublist (la.drop at')) (hx : la[at']? = some x) (hy : bs[i]? = some y) (hne : tntB x y = false) : (bs.drop i).Sublist (la.drop (at' + 1)) := by
  obtain ⟨h1, rfl⟩ := List.getElem?_eq_some_iff.1 hx
  obtain ⟨h2, rfl⟩ := List.getElem?_eq_some_iff.1 hy
  rw [List.drop_eq_getElem_cons h1, List.drop_eq_getElem_cons h2] at h
  rw [List.drop_eq_getElem_cons h2]
  exact sub_cons h (of_decide_eq_false hne)
theorem sub_both {la bs : List Tnt} {i at' : Nat} {x y : Tnt} (h : (bs.drop i).Sublist (la.drop at')) (hx : la[at']? = some x) (hy : bs[i]? = some y) (he : tntB x y = true) : (bs.drop (i + 1)).Sublist (la.drop (at' + 1)) := by
  obtain ⟨h1, rfl⟩ := List.getElem?_eq_some_iff.1 hx
  obtain ⟨h2, rfl⟩ := List.getElem?_eq_some_iff.1 hy
  rw [List.drop_eq_getElem_cons h1, List.drop_eq_getElem_cons h2] at h
  have e := of_decide_eq_true he
  rw [e] at h
  exact List.cons_sublist_cons.1 h
theorem sub_lt {la bs : List Tnt} {i at' : Nat} (h : (bs.drop i).Sublist (la.drop at')) (hi : i < bs.length) : at' < la.length := by
  have := h.length_le
  rw [List.length_drop, List.length_drop] at this
  omega
theorem all_unb (c : Option Addr) (kc : Nat) (xs : List Tnt) (w : World) (hF : TntsAt w c xs) (hm : xs.length ≤ 1000000) :
    Calls Try.prog 10 #[.slice (some ⟨w.heap.size, 0, none⟩) 1 1, .slice c xs.length kc, .int .i64 0] (w.alloc (.cells #[.string ⟨#[]⟩, .string ⟨#[]⟩, .bool true, .int .i64 0] 25)) (Gives (w.alloc (.cells #[.string ⟨#[]⟩, .string ⟨#[]⟩, .bool true, .int .i64 0] 25)) (OwnL tcs 3 (w.alloc (.cells #[.string ⟨#[]⟩, .string ⟨#[]⟩, .bool true, .int .i64 0] 25)).heap.size 30 [])) := by
  have h := unborne_any (some ⟨w.heap.size, 0, none⟩) c 1 kc [t1] xs 0 _ (RowsAt.new ocs_len w [t1] 25) (by decide) (hF.mono ((Below.refl _ w).alloc (Nat.le_refl _) (.cells ([t1].flatMap ocs).toArray 25))) hm
  rw [all_none] at h
  exact h

theorem allows1 (c : Option Addr) (kc : Nat) (xs : List Tnt) (a : Option Addr) (w : World) (hD : TolsAt w a [t1]) (hF : TntsAt w c xs) (hm : xs.length ≤ 1000000) :
    Calls Try.prog 12 #[.slice a 1 1, .slice c xs.length kc] w fun e w' => e = .returned (.bool true) ∧ Below w.heap.size w w' := by
  have h := allows_any a c 1 kc [t1] xs w hD (by decide) hF hm
  rw [all_allows] at h
  exact h
theorem add_fresh (c : Option Addr) (kc : Nat) (xs : List Tnt) (w : World) (hF : TntsAt w c xs) (hm : xs.length ≤ 1000000) :
    Calls Try.prog 15 #[.slice c xs.length kc, .agg #[.string ⟨#[102, 114, 101, 115, 104]⟩, .string ⟨#[]⟩, .int .i64 1]] w (Gives w (OwnL tcs 3 w.heap.size 30 (addT xs yF))) := add_any c kc xs yF w hF hm
theorem drop_fresh (c : Option Addr) (kc : Nat) (xs ys : List Tnt) (w : World) (hF : TntsAt w c xs) (hm : xs.length ≤ 1000000) (h : dropT xs fresh 0 = ys) :
    Calls Try.prog 14 #[.slice c xs.length kc, .string ⟨#[102, 114, 101, 115, 104]⟩, .int .i64 0] w (Gives w (OwnL tcs 3 w.heap.size 30 ys)) := by
  subst h
  exact drop_any c kc xs fresh 0 w hF hm
theorem fresh_list : fresh.toList = [102, 114, 101, 115, 104] := by rw [ByteArray.toList_eq]; rfl
theorem fresh_yes {s : ByteArray} (h : s = fresh) : (s.toList == [102, 114, 101, 115, 104]) = true := by rw [h, fresh_list]; rfl
theorem fresh_no {s : ByteArray} (h : ¬ s = fresh) : (s.toList == [102, 114, 101, 115, 104]) = false := by
  rw [beq_eq_false_iff_ne, ← fresh_list]
  exact fun e => h ((toList_inj _ _).1 e)

set_option maxRecDepth 100000 in
set_option maxHeartbeats 4000000 in
theorem walk_no (a c : Option Addr) (ka kc : Nat) (l : List Tol) (xs : List Tnt) (t : Tol) (w : World) (hD : TolsAt w a l) (hn : l.length ≤ maxLen) (hF : TntsAt w c xs) (hm : xs.length ≤ maxLen) (hL : lightB l xs = false ∨ (lightB l xs = true ∧ (300 < t.key.size ∨ (t.key.size ≤ 300 ∧ 300 < t.val.size)))) :
    Calls Try.prog 3 #[.slice a l.length ka, .slice c xs.length kc, .agg #[.string (t).key, .string (t).val, .bool (t).any, .int .i64 (t).eff]] w fun e w' => e = .returned (.bool true) ∧ Below w.heap.size w w' := by
  have HD := Lib.hid (hD.mono ((Below.refl _ w).alloc (Nat.le_refl _) (.cells #[.string t.key, .string t.val, .bool t.any, .int .i64 t.eff] 25)))
  have HF := Lib.hid (hF.mono ((Below.refl _ w).alloc (Nat.le_refl _) (.cells #[.string t.key, .string t.val, .bool t.any, .int .i64 t.eff] 25)))
  clear hD hF
  rcases hL with h1 | ⟨h1, h2 | ⟨h2, h3⟩⟩
  all_goals
    have H1 := Lib.hid h1
    clear h1
    go_enter Try.func3, Try.ntmps3
    go_wp2_with (first | (go_at_call 8; (with_reducible refine (light_any a c ka kc l xs _ HD.out hn HF.out hm).mono ?_); rintro e w1 ⟨rfl, hb1⟩; rw [H1.out]; have hX1 := (CellsO.new t w 25).mono hb1; have hz1 := hb1.size; (try simp at hz1); obtain ⟨x10, x11, x12, x13, x14⟩ := hX1) | (go_at_call 9; (with_reducible refine (known_any _).mono ?_); rintro e w2 ⟨rfl, hb2⟩))
    go_ret
    exact ⟨rfl, by (repeat' (first | with_reducible exact Below.refl _ _ | with_reducible assumption | with_reducible refine Below.drew ?_ | with_reducible refine below_drewN' ?_ _ | with_reducible refine Below.alloc ?_ ?_ _ | with_reducible refine Below.setCell ?_ ?_ _ | with_reducible refine below_step (by assumption) ?_ ?_ | omega | (simp; done) | (simp; omega)))⟩

set_option maxRecDepth 100000 in
set_option maxHeartbeats 8000000 in
theorem walk_yes (a c : Option Addr) (ka kc : Nat) (l : List Tol) (xs : List Tnt) (t : Tol) (w : World) (hD : TolsAt w a l) (hok : NilOk a l.length ka) (hn : l.length ≤ 40) (hF : TntsAt w c xs) (hm : xs.length ≤ 40) (hL : lightB l xs = true) (ht1 : t.key.size ≤ 300) (ht2 : t.val.size ≤ 300) :
    Calls Try.prog 3 #[.slice a l.length ka, .slice c xs.length kc, .agg #[.string (t).key, .string (t).val, .bool (t).any, .int .i64 (t).eff]] w fun e w' => e = .returned (.bool true) ∧ Below w.heap.size w w' := by
  have HD := Lib.hid (hD.mono ((Below.refl _ w).alloc (Nat.le_refl _) (.cells #[.string t.key, .string t.val, .bool t.any, .int .i64 t.eff] 25)))
  have HF := Lib.hid (hF.mono ((Below.refl _ w).alloc (Nat.le_refl _) (.cells #[.string t.key, .string t.val, .bool t.any, .int .i64 t.eff] 25)))
  have H1 := Lib.hid hL
  have Hok := Lib.hid hok
  clear hD hF hL hok
  have hnL : l.length ≤ maxLen := by unfold maxLen; omega
  have hmL : xs.length ≤ maxLen := by unfold maxLen; omega
  have hn6 : l.length ≤ 1000000 := by omega
  have hm6 : xs.length ≤ 1000000 := by omega
  have hc3 : 0 + l.length ≤ maxLen := by omega
  have hc4 : (0 + l.length) * 48 ≤ 140737488355328 := by omega
  have hc5 : l.length + 1 ≤ maxLen := by unfold maxLen; omega
  have hc6 : (l.length + 1) * 48 ≤ 140737488355328 := by omega
  obtain ⟨lt, hlt⟩ : ∃ lt, lt = l ++ [t] := ⟨_, rfl⟩
  have Hrow := Lib.hid (show l.flatMap ocs ++ ocs t = lt.flatMap ocs by rw [hlt]; simp)
  have Hlen := Lib.hid (show l.length + 1 = lt.length by rw [hlt]; simp)
  have hlt6 : lt.length ≤ 1000000 := by rw [hlt, List.length_append]; simp; omega
  obtain ⟨la, has⟩ : ∃ la, la = unborneL l xs 0 := ⟨_, rfl⟩
  obtain ⟨bs, hbs⟩ : ∃ bs, bs = unborneL lt xs 0 := ⟨_, rfl⟩
  have HS := Lib.hid (show bs.Sublist la by rw [hbs, has, hlt]; exact more_sub l t xs)
  have HN := Lib.hid (show ∀ x ∈ bs, bearsB t x = false from fun x hx => by rw [hbs, hlt] at hx; exact more_not l t xs hx)
  have hal : la.length ≤ 40 := by rw [has]; exact Nat.le_trans (List.length_filter_le _ _) hm
  have hbl : bs.length ≤ 40 := by rw [hbs]; exact Nat.le_trans (List.length_filter_le _ _) hm
  have Has := Lib.hid has
  have Hbs := Lib.hid hbs
  clear has hbs hlt
  obtain ⟨i0, hi, hz0, hz1, hz2⟩ := info_parts Try.info25
  have Hi := Lib.hid hi
  have Hz0 := Lib.hid hz0
  have Hz1 := Lib.hid hz1
  have Hz2 := Lib.hid hz2
  clear hi hz0 hz1 hz2
  go_enter Try.func3, Try.ntmps3
  go_wp2_with (first
    | (go_at_call 8; (with_reducible refine (light_any a c ka kc l xs _ HD.out hnL HF.out hmL).mono ?_); rintro e w1 ⟨rfl, hb1⟩; rw [H1.out]; have hX1 := (CellsO.new t w 25).mono hb1; have HX1 := Lib.hid hX1; have hz1 := hb1.size; (try simp at hz1); have HB1 := Lib.hid (show Below w.heap.size w w1 by (repeat' (first | with_reducible exact Below.refl _ _ | with_reducible assumption | with_reducible refine Below.drew ?_ | with_reducible refine below_drewN' ?_ _ | with_reducible refine Below.alloc ?_ ?_ _ | with_reducible refine Below.setCell ?_ ?_ _ | with_reducible refine below_step (by assumption) ?_ ?_ | omega | (simp; done) | (simp; omega)))); have HD1 := Lib.hid (HD.out.mono hb1); have HF1 := Lib.hid (HF.out.mono hb1); obtain ⟨x10, x11, x12, x13, x14⟩ := hX1)
    | (at_builtin; refine wpList_append_src rfl (.tmp 32) (.tmp 33) 22 rfl w1.heap.size 25 i0 _ 4 48 Try.underlying22 Hi.out Hz0.out Hz1.out Hz2.out rfl (by decide) _ 0 [] rfl (World.ownsRow_made w1 #[] 0 (Nat.le_refl w1.heap.size) (Nat.zero_le _) rfl) a l.length ka (l.flatMap ocs) rfl (rows_length ocs 4 ocs_len l) (RowsAt.news ocs_len (HD1.out.mono ((Below.refl _ w1).alloc (Nat.le_refl _) _))) Hok.out (flat_ones ocs_one l) hc3 hc4 (le_alloc (Nat.le_refl w1.heap.size) _) ?_; intro v1 w2 hown1 hgrow1; rw [Nat.zero_add, List.nil_append] at hown1; have HB2 := Lib.hid (own_below (World.ownsRow_made w1 #[] 0 (Nat.le_refl w1.heap.size) (Nat.zero_le _) rfl : (w1.alloc (.cells #[] 25)).ownsRow w1.heap.size 25 4 (.slice (some ⟨w1.heap.size, 0, none⟩) 0 0) 0 []) ((Below.refl _ w1).alloc (Nat.le_refl w1.heap.size) _) (le_alloc (Nat.le_refl w1.heap.size) _) hgrow1); have HO2 := Lib.hid hown1; have hz2 := HB2.out.size; have hX2 := HX1.out.mono HB2.out; have HX2 := Lib.hid hX2; obtain ⟨x20, x21, x22, x23, x24⟩ := hX2; clear hown1 hgrow1)
    | (at_builtin; refine wpList_append_own _ rfl (.tmp 35) (.tmp 37) 22 rfl w1.heap.size 25 i0 _ 4 48 Try.underlying22 Hi.out Hz0.out Hz1.out Hz2.out rfl (by decide) _ l.length (l.flatMap ocs) rfl (HO2.out.alloc _) ⟨w2.heap.size, 0, none⟩ 1 1 (ocs t) rfl rfl (news_at _ _ _) (ocs_one _) hc5 hc6 (le_alloc HB2.out.size _) ?_; intro v2 w3 hown1 hgrow1 _; rw [Hrow.out, Hlen.out] at hown1; have HB3 := Lib.hid (own_below (HO2.out.alloc _) (HB2.out.alloc HB2.out.size _) (le_alloc HB2.out.size _) hgrow1); obtain ⟨qm, km, rfl, _, hr3⟩ := OwnL.isL (l := lt) ocs_len (by decide) hown1; have HR3 := Lib.hid hr3; have hz3 := HB3.out.size; have HX3 := Lib.hid (HX1.out.mono HB3.out); have HD3 := Lib.hid (HD1.out.mono HB3.out); have HF3 := Lib.hid (HF1.out.mono HB3.out); clear hown1 hgrow1 hr3)
    | (go_at_call 10; (with_reducible refine (unborne_any a c ka kc l xs 0 _ HD3.out hn6 HF3.out hm6).mono ?_); rintro e w5 ⟨⟨v5, rfl, hv5⟩, hb5⟩; rw [← Has.out] at hv5; obtain ⟨qa, ka', rfl, _, hr5⟩ := hv5.isL tcs_len (by decide); have HR5 := Lib.hid hr5; have HB5 := Lib.hid hb5; have hz5 := hb5.size; clear hv5 hr5)
    | (go_at_call 10; (with_reducible refine (unborne_any qm c km kc lt xs 0 _ (HR3.out.mono HB5.out) hlt6 (HF3.out.mono HB5.out) hm6).mono ?_); rintro e V ⟨⟨v6, rfl, hv6⟩, hb6⟩; rw [← Hbs.out] at hv6; obtain ⟨qb, kb', rfl, _, hr6⟩ := hv6.isL tcs_len (by decide); have HR6 := Lib.hid hr6; have HB6 := Lib.hid hb6; have hz6 := hb6.size; clear hv6 hr6))
  have HRA := Lib.hid (HR5.out.mono HB6.out)
  have HFV := Lib.hid ((HF3.out.mono HB5.out).mono HB6.out)
  have HXV := Lib.hid ((HX3.out.mono HB5.out).mono HB6.out)
  have HBV := Lib.hid (show Below w.heap.size w V from ((HB1.out.trans (HB3.out.mono HB1.out.size)).trans (HB5.out.mono (by have := HB1.out.size; omega))).trans (HB6.out.mono (by have := HB1.out.size; omega)))
  have hzV := HBV.out.size
  clear hb1 hb5 hb6 HX1 HX2 HX3 HR5 HF3 HR3 HD3 HF1 HD1 HO2 hz1 hz2 hz3 hz5 hz6 x10 x11 x12 x13 x14 x20 x21 x22 x23 x24
  go_loopw [10, 11] (fun p q wr => ∃ at' i : Nat, at' ≤ la.length ∧ i ≤ bs.length ∧ p = .int .i64 at' ∧ q = .int .i64 i ∧ (bs.drop i).Sublist (la.drop at') ∧ Below V.heap.size V wr) (fun _ q _ => bs.length - (intOf q).toNat)
  case atStart => exact ⟨0, 0, Nat.zero_le _, Nat.zero_le _, rfl, rfl, HS.out, by (repeat' (first | with_reducible exact Below.refl _ _ | with_reducible assumption | with_reducible refine Below.drew ?_ | with_reducible refine below_drewN' ?_ _ | with_reducible refine Below.alloc ?_ ?_ _ | with_reducible refine Below.setCell ?_ ?_ _ | with_reducible refine below_step (by assumption) ?_ ?_ | omega | (simp; done) | (simp; omega)))⟩
  case round =>
    obtain ⟨at', i, ha, hi, rfl, rfl, hS, hB⟩ := hrel
    have HS' := Lib.hid hS
    have HB := Lib.hid hB
    clear hS
    obtain ⟨hcB, hfB⟩ := bcell hB
    have hbz := hB.size
    by_cases hib : i < bs.length
    · obtain ⟨y, hy⟩ := mem_at (l := bs) (k := i) hib
      have Hy := Lib.hid hy
      obtain ⟨b2, off2, rfl, hb2, hc2⟩ := HR6.out (by omega)
      obtain ⟨d0, d1, d2⟩ := tnt_cells (hc2 i y hy)
      clear hy hc2
      have hbear := HN.out y (List.mem_of_getElem? Hy.out)
      have Hbear := Lib.hid hbear
      clear hbear
      obtain ⟨W3, hW3⟩ : ∃ W9, W9 = wr := ⟨_, rfl⟩
      subst hW3
      go_wp2
      go_loopw [10] (fun p wr => ∃ j : Nat, j ≤ la.length ∧ p = .int .i64 j ∧ (bs.drop i).Sublist (la.drop j) ∧ Below V.heap.size V wr) (fun p _ => la.length - (intOf p).toNat)
      case atStart => exact ⟨at', ha, rfl, HS'.out, HB.out⟩
      case round =>
        obtain ⟨j, hj, rfl, hS2, hC⟩ := hrel
        have HS2 := Lib.hid hS2
        have HC := Lib.hid hC
        obtain ⟨hcC, hfC⟩ := bcell hC
        have hcz := hC.size
        have hja := sub_lt hS2 hib
        clear hS2
        obtain ⟨x, hx⟩ := mem_at (l := la) (k := j) hja
        have Hx := Lib.hid hx
        obtain ⟨b, off, rfl, hb, hc⟩ := HRA.out (by omega)
        obtain ⟨c0, c1, c2⟩ := tnt_cells (hc j x hx)
        clear hx hc
        have hbw : b < wr.heap.size := by omega
        have hbw2 : b2 < wr.heap.size := by omega
        have hq := neq_taint x y
        have hg := guard_taint
        obtain ⟨x0, x1, x2, x3, x4⟩ := HXV.out.mono HC.out
        cases hv : tntB x y
        · rw [hv] at hq
          have Hs := Lib.hid (sub_next HS2.out Hx.out Hy.out hv)
          clear hv
          go_wp2
          have hcH := held_cell
          refine region_rel (by kernel_rfl) (by kernel_rfl) ?_
          repeat
            ((with_reducible refine relStep (fun K hK => ?_))
             (have HK := Lib.hid hK)
             clear hK
             (first
               | (apply relInl
                  · intro r n hf
                    have Hf := Lib.hid hf
                    clear hf
                    unfold relAt
                    go_simp
                    (first | (refine relUpon_val ?_ (Below.refl _ _); exact rfl) | exact rfl | (refine relUpon_enter ?_; fail))
                  (simp only [Act.put, List.setIfInBounds_toArray, List.set_cons_zero, List.set_cons_succ])
                  (with_reducible refine HK.out _ _ ?_)
                  clear HK K)
               | (fail)))
          refine relNil ?_
          intro r5 n5 hx5
          clear hcH
          (try simp only [List.nil_append, List.cons_append, List.mem_cons, List.not_mem_nil, or_false, forall_eq_or_imp, forall_eq, false_implies, implies_true] at hx5)
          obtain ⟨w5, hb5⟩ := n5
          (try dsimp only)
          obtain ⟨hc5, hf5⟩ := bcell hb5
          have hz5 := hb5.size
          (try simp at hz5)
          go_wp2
          go_roundw
          case rel => exact ⟨j + 1, by omega, by go_num, Hs.out, HC.out.trans (by (repeat' (first | with_reducible exact Below.refl _ _ | with_reducible assumption | with_reducible refine Below.drew ?_ | with_reducible refine below_drewN' ?_ _ | with_reducible refine Below.alloc ?_ ?_ _ | with_reducible refine Below.setCell ?_ ?_ _ | with_reducible refine below_step (by assumption) ?_ ?_ | omega | (simp; done) | (simp; omega))))⟩
          case measure => simp [intOf]; omega
        · rw [hv] at hq
          have Hs := Lib.hid (sub_both HS2.out Hx.out Hy.out hv)
          clear hv
          go_wp2
          have hcH := held_cell
          refine region_rel (by kernel_rfl) (by kernel_rfl) ?_
          repeat
            ((with_reducible refine relStep (fun K hK => ?_))
             (have HK := Lib.hid hK)
             clear hK
             (first
               | (apply relInl
                  · intro r n hf
                    have Hf := Lib.hid hf
                    clear hf
                    unfold relAt
                    go_simp
                    (first | (refine relUpon_val ?_ (Below.refl _ _); exact rfl) | exact rfl | (refine relUpon_enter ?_; fail))
                  (simp only [Act.put, List.setIfInBounds_toArray, List.set_cons_zero, List.set_cons_succ])
                  (with_reducible refine HK.out _ _ ?_)
                  clear HK K)
               | (fail)))
          refine relNil ?_
          intro r5 n5 hx5
          clear hcH
          (try simp only [List.nil_append, List.cons_append, List.mem_cons, List.not_mem_nil, or_false, forall_eq_or_imp, forall_eq, false_implies, implies_true] at hx5)
          obtain ⟨w5, hb5⟩ := n5
          (try dsimp only)
          obtain ⟨hc5, hf5⟩ := bcell hb5
          have hz5 := hb5.size
          (try simp at hz5)
          obtain ⟨x0', x1', x2', x3', x4'⟩ := (HXV.out.mono HC.out).mono hb5
          have hbw5 : b2 < w5.heap.size := by omega
          have hje : (((j : Nat) : Int) == ((la.length : Nat) : Int)) = false := by rw [beq_eq_false_iff_ne]; omega
          go_wp2
          have hcH := held_cell
          refine region_rel (by kernel_rfl) (by kernel_rfl) ?_
          repeat
            ((with_reducible refine relStep (fun K hK => ?_))
             (have HK := Lib.hid hK)
             clear hK
             (first
               | (apply relInl
                  · intro r n hf
                    have Hf := Lib.hid hf
                    clear hf
                    unfold relAt
                    go_simp
                    (first | (refine relUpon_val ?_ (Below.refl _ _); exact rfl) | exact rfl | (refine relUpon_enter ?_; (go_at_call 11; (with_reducible refine (bears_any t y _).mono ?_); rw [Hbear.out]; rintro e w1 ⟨rfl, hb⟩; exact ⟨⟨_, rfl, rfl⟩, hb⟩)))
                  (simp only [Act.put, List.setIfInBounds_toArray, List.set_cons_zero, List.set_cons_succ])
                  (with_reducible refine HK.out _ _ ?_)
                  clear HK K)
               | (fail)))
          refine relNil ?_
          intro r6 n6 hx6
          clear hcH
          (try simp only [List.nil_append, List.cons_append, List.mem_cons, List.not_mem_nil, or_false, forall_eq_or_imp, forall_eq, false_implies, implies_true] at hx6)
          obtain ⟨w6, hb6⟩ := n6
          (try dsimp only)
          obtain ⟨hc6, hf6⟩ := bcell hb6
          have hz6 := hb6.size
          (try simp at hz6)
          go_wp2
          go_roundw
          case rel => exact ⟨j + 1, i + 1, by omega, by omega, by go_num, by go_num, Hs.out, HC.out.trans (by (repeat' (first | with_reducible exact Below.refl _ _ | with_reducible assumption | with_reducible refine Below.drew ?_ | with_reducible refine below_drewN' ?_ _ | with_reducible refine Below.alloc ?_ ?_ _ | with_reducible refine Below.setCell ?_ ?_ _ | with_reducible refine below_step (by assumption) ?_ ?_ | omega | (simp; done) | (simp; omega))))⟩
          case measure => simp [intOf]; omega
    · have HFW := Lib.hid (HFV.out.mono HB.out)
      have HBW := Lib.hid (HBV.out.trans (HB.out.mono hzV))
      obtain ⟨V4, hV4⟩ : ∃ W9, W9 = wr := ⟨_, rfl⟩
      subst hV4
      clear HFV HRA HR6 HXV HB hB hcB hfB hbz HBV hzV HS HN
      have hzW := HBW.out.size
      go_wp2_with (first
        | (go_at_call 10; (with_reducible refine (all_unb c kc xs _ HFW.out hm6).mono ?_); rintro e w7 ⟨⟨v7, rfl, hv7⟩, hb7⟩; obtain ⟨q7, k7, rfl, _, _⟩ := hv7.isL tcs_len (by decide); have HR7 := Lib.hid (RowsAt.mono (show TolsAt (V4.alloc (.cells #[.string ⟨#[]⟩, .string ⟨#[]⟩, .bool true, .int .i64 0] 25)) (some ⟨V4.heap.size, 0, none⟩) [t1] from RowsAt.new ocs_len V4 [t1] 25) hb7); have hz7 := hb7.size; (try simp at hz7); clear hv7)
        | (go_at_call 12; (with_reducible refine (allows1 c kc xs _ _ HR7.out (HFW.out.mono (by (repeat' (first | with_reducible exact Below.refl _ _ | with_reducible assumption | with_reducible refine Below.drew ?_ | with_reducible refine below_drewN' ?_ _ | with_reducible refine Below.alloc ?_ ?_ _ | with_reducible refine Below.setCell ?_ ?_ _ | with_reducible refine below_step (by assumption) ?_ ?_ | omega | (simp; done) | (simp; omega))))) hm6).mono ?_); rintro e w8 ⟨rfl, hb8⟩; have hz8 := hb8.size))
      obtain ⟨U, hU⟩ : ∃ U, U = w8.alloc (.cells #[.string ⟨#[102, 114, 101, 115, 104]⟩, .string ⟨#[]⟩, .int .i64 1] 30) := ⟨_, rfl⟩
      rw [← hU]
      have HU := Lib.hid (show Below w.heap.size w U by rw [hU]; exact HBW.out.trans (by (repeat' (first | with_reducible exact Below.refl _ _ | with_reducible assumption | with_reducible refine Below.drew ?_ | with_reducible refine below_drewN' ?_ _ | with_reducible refine Below.alloc ?_ ?_ _ | with_reducible refine Below.setCell ?_ ?_ _ | with_reducible refine below_step (by assumption) ?_ ?_ | omega | (simp; done) | (simp; omega)))))
      have u0 : U.cell? ⟨w8.heap.size, 0, none⟩ = some (.string ⟨#[102, 114, 101, 115, 104]⟩) := by rw [hU]; simp [go_sem]
      have u1 : U.cell? ⟨w8.heap.size, 1, none⟩ = some (.string ⟨#[]⟩) := by rw [hU]; simp [go_sem]
      have u2 : U.cell? ⟨w8.heap.size, 2, none⟩ = some (.int .i64 1) := by rw [hU]; simp [go_sem]
      have hus : w8.heap.size < U.heap.size := by rw [hU]; simp
      have HFU := Lib.hid (show TntsAt U c xs by rw [hU]; exact (HFW.out.mono (show Below V4.heap.size V4 w8 by (repeat' (first | with_reducible exact Below.refl _ _ | with_reducible assumption | with_reducible refine Below.drew ?_ | with_reducible refine below_drewN' ?_ _ | with_reducible refine Below.alloc ?_ ?_ _ | with_reducible refine Below.setCell ?_ ?_ _ | with_reducible refine below_step (by assumption) ?_ ?_ | omega | (simp; done) | (simp; omega))))).mono (by (repeat' (first | with_reducible exact Below.refl _ _ | with_reducible assumption | with_reducible refine Below.drew ?_ | with_reducible refine below_drewN' ?_ _ | with_reducible refine Below.alloc ?_ ?_ _ | with_reducible refine Below.setCell ?_ ?_ _ | with_reducible refine below_step (by assumption) ?_ ?_ | omega | (simp; done) | (simp; omega)))))
      clear hU hb7 hb8 HR7 hz7 hz8 HFW HBW hzW
      have hzU := HU.out.size
      go_loopw [14] (fun p wr => ∃ k : Nat, k ≤ xs.length ∧ p = .int .i64 k ∧ (xs.take k).all (fun x => !decide (x.key = fresh)) = true ∧ Below U.heap.size U wr) (fun p _ => xs.length - (intOf p).toNat)
      case atStart => exact ⟨0, Nat.zero_le _, rfl, rfl, by (repeat' (first | with_reducible exact Below.refl _ _ | with_reducible assumption | with_reducible refine Below.drew ?_ | with_reducible refine below_drewN' ?_ _ | with_reducible refine Below.alloc ?_ ?_ _ | with_reducible refine Below.setCell ?_ ?_ _ | with_reducible refine below_step (by assumption) ?_ ?_ | omega | (simp; done) | (simp; omega)))⟩
      case round =>
        obtain ⟨k, hk, rfl, hE, hB⟩ := hrel
        have HE := Lib.hid hE
        have HB := Lib.hid hB
        clear hE
        obtain ⟨hcB, hfB⟩ := bcell hB
        have hbz := hB.size
        by_cases hlt : k < xs.length
        · obtain ⟨x, hx⟩ := mem_at (l := xs) (k := k) hlt
          have Hx := Lib.hid hx
          obtain ⟨b, off, rfl, hb, hc⟩ := HFU.out (by omega)
          obtain ⟨c0, c1, c2⟩ := tnt_cells (hc k x hx)
          have hbw : b < wr.heap.size := by omega
          clear hc hx
          by_cases hf : x.key = fresh
          · have hd := fresh_yes hf
            clear hf
            go_wp2_with (go_at_call 9; (with_reducible refine (known_any _).mono ?_); rintro e w9 ⟨rfl, hb9⟩)
            go_ret
            exact ⟨rfl, HU.out.trans ((HB.out.mono hzU).trans (by (repeat' (first | with_reducible exact Below.refl _ _ | with_reducible assumption | with_reducible refine Below.drew ?_ | with_reducible refine below_drewN' ?_ _ | with_reducible refine Below.alloc ?_ ?_ _ | with_reducible refine Below.setCell ?_ ?_ _ | with_reducible refine below_step (by assumption) ?_ ?_ | omega | (simp; done) | (simp; omega)))))⟩
          · have hd := fresh_no hf
            have Hs := Lib.hid (all_take1 (P := fun x : Tnt => !decide (x.key = fresh)) Hx.out (by simp [hf]) HE.out)
            clear hf
            go_wp2
            go_roundw
            case rel => exact ⟨k + 1, by omega, by go_num, Hs.out, by (repeat' (first | with_reducible exact Below.refl _ _ | with_reducible assumption | with_reducible refine Below.drew ?_ | with_reducible refine below_drewN' ?_ _ | with_reducible refine Below.alloc ?_ ?_ _ | with_reducible refine Below.setCell ?_ ?_ _ | with_reducible refine below_step (by assumption) ?_ ?_ | omega | (simp; done) | (simp; omega)))⟩
            case measure => simp [intOf]; omega
        · obtain rfl : k = xs.length := by omega
          have HA := Lib.hid (add_drop (all_done rfl HE.out))
          have HFZ := Lib.hid (HFU.out.mono HB.out)
          have HZ := Lib.hid (HU.out.trans (HB.out.mono hzU))
          have hadd : (addT xs yF).length ≤ 1000000 := by unfold addT; rw [List.length_append]; have := List.length_filter_le (slotB yF.key yF.eff) xs; simp; omega
          have hwr : w8.heap.size < wr.heap.size := by omega
          go_wp2_with (first
            | (go_at_call 15; (with_reducible refine (add_fresh c kc xs _ HFZ.out hm6).mono ?_); rintro e w9 ⟨⟨v9, rfl, hv9⟩, hb9⟩; obtain ⟨q9, k9, rfl, _, hr9⟩ := hv9.isL tcs_len (by decide); have HR9 := Lib.hid hr9; have hz9 := hb9.size; clear hv9 hr9)
            | (go_at_call 14; (with_reducible refine (drop_fresh q9 k9 (addT xs yF) xs _ HR9.out hadd HA.out).mono ?_); rintro e w10 ⟨⟨v10, rfl, hv10⟩, hb10⟩; obtain ⟨q10, k10, rfl, _, hr10⟩ := hv10.isL tcs_len (by decide); have HR10 := Lib.hid hr10; have hz10 := hb10.size; clear hv10 hr10)
            | (go_at_call 13; (with_reducible refine (same_any q10 c k10 kc xs xs _ HR10.out (HFZ.out.mono (by (repeat' (first | with_reducible exact Below.refl _ _ | with_reducible assumption | with_reducible refine Below.drew ?_ | with_reducible refine below_drewN' ?_ _ | with_reducible refine Below.alloc ?_ ?_ _ | with_reducible refine Below.setCell ?_ ?_ _ | with_reducible refine below_step (by assumption) ?_ ?_ | omega | (simp; done) | (simp; omega))))) hm6 hm6).mono ?_); rw [kvS]; rintro e w11 ⟨rfl, hb11⟩; have hz11 := hb11.size)
            | (go_at_call 9; (with_reducible refine (known_any _).mono ?_); rintro e w12 ⟨rfl, hb12⟩))
          go_ret
          exact ⟨rfl, HZ.out.trans (by (repeat' (first | with_reducible exact Below.refl _ _ | with_reducible assumption | with_reducible refine Below.drew ?_ | with_reducible refine below_drewN' ?_ _ | with_reducible refine Below.alloc ?_ ?_ _ | with_reducible refine Below.setCell ?_ ?_ _ | with_reducible refine below_step (by assumption) ?_ ?_ | omega | (simp; done) | (simp; omega))))⟩

theorem walk {H : Type} {enc : TypeId × Value → H} {W : World} {base : Nat} {v u x : Value} {d f g : DataW H} {p q r : List MemPlace}
    (hv : Value.okWide Try.prog W .any base 22 v) (h : DataW.Trod enc Try.prog W 0 (fun _ => true) true 22 v d p)
    (hu : Value.okWide Try.prog W .any base 23 u) (k : DataW.Trod enc Try.prog W 0 (fun _ => true) true 23 u f q)
    (hx : Value.okWide Try.prog W .any base 25 x) (m : DataW.Trod enc Try.prog W 0 (fun _ => true) true 25 x g r) :
    Calls Try.prog 3 #[v, u, x] W fun e W' => e = .returned (.bool true) ∧ Below W.heap.size W W' := by
  obtain ⟨a, l, ka, rfl, hok, hD, hn, _⟩ := open_tols hv h
  obtain ⟨c, xs, kc, rfl, _, hF, hm, _⟩ := open_tnts hu k
  obtain ⟨t, rfl⟩ := open_tol hx m
  cases hL : lightB l xs
  · exact walk_no a c ka kc l xs t W hD hn hF hm (.inl hL)
  · by_cases h1 : 300 < t.key.size
    · exact walk_no a c ka kc l xs t W hD hn hF hm (.inr ⟨hL, .inl h1⟩)
    · by_cases h2 : 300 < t.val.size
      · exact walk_no a c ka kc l xs t W hD hn hF hm (.inr ⟨hL, .inr ⟨by omega, h2⟩⟩)
      · have h3 := hL
        unfold lightB at h3
        rw [Bool.and_eq_true, decide_eq_true_eq] at h3
        exact walk_yes a c ka kc l xs t W hD hok h3.1.1 hF h3.1.2 hL (by omega) (by omega)

set_option maxRecDepth 100000 in
theorem lifted (os : Os) (started : os.Started) (H : Type) (enc : TypeId × Value → H) :
    ReturnsInHanded {} Try.checked os 3 .any (Rows.taintsMoreSpec.pre6 enc Try.prog Try.f3 Rows.taintsMoreRow.domain false) (Rows.taintsMoreSpec.post enc Try.prog Try.f3 false true false false) := by
  refine returnsInHanded_of_change (C := Try.checked) Try.own started (by kernel_rfl) Try.func3
    (ChangeSpec.witness6 (enc := enc) (C := Try.checked) false ⟨#[], #[.slice none 0 0, .slice none 0 0, .agg #[.string ⟨#[]⟩, .string ⟨#[]⟩, .bool false, .int .i64 0]], []⟩ 8 (by kernel_rfl) (by kernel_rfl) (by kernel_rfl) (by kernel_rfl)) ?_
  intro W base args ds gs before hval hW _ _
  have hW' := hW
  obtain ⟨p, q, hA, hV, rfl, hfz, hnd⟩ := hW
  rw [Try.params3] at hA hval
  obtain ⟨v0, v1, v2, d0, d1, d2, p0, p1, p2, rfl, rfl, rfl, h0, h1, h2⟩ := trodAll_three hA
  refine (walk (hval 0 22 v0 rfl rfl) h0 (hval 1 23 v1 rfl rfl) h1 (hval 2 25 v2 rfl rfl) h2).mono fun e W' ⟨he, hb⟩ => ?_
  exact ⟨_, he, law_post Try.laidOut hW' rfl (by kernel_rfl) (by kernel_rfl) Try.underlying4 rfl rfl rfl hb⟩

theorem over : Rows.taintsMoreRow.holds Try.pinned (OpenSpec.ofChange Rows.taintsMoreSpec) :=
  OpenClaim.holds_of_wide 3 Try.f3 rfl rfl rfl rfl rfl rfl rfl ⟨rfl, rfl, rfl, rfl, rfl⟩ rfl rfl rfl rfl rfl (by kernel_rfl) Try.func3 (by kernel_rfl)
    (of_decide_eq_true (by kernel_rfl)) (by unfold Func.isWrapper; first | (rw [if_pos (by decide +kernel)]; kernel_rfl) | (rw [if_neg (by decide +kernel)]; exact ⟨rfl, rfl⟩))
    (fun os started H enc _ => lifted os started H enc)

/-- The statement. -/
theorem proved : Rows.TaintsMoreSaid := over
end taintsMore
end Go.Proofs.Ytlfjjiepclphiaa
