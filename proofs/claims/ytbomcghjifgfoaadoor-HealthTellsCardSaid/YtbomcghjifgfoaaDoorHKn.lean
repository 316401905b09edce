/-
  The contract of triremelaw29.known.
-/
import Derived.Test.YtbomcghjifgfoaaDoorHGst2
import Derived.Test.YtbomcghjifgfoaaDoorHSel
import Derived.Test.YtbomcghjifgfoaaDoorHCnt
import Derived.Test.YtbomcghjifgfoaaDoorHShare
import Derived.Deep.Cut
import Derived.Outline
namespace Go.Proofs.YtbomcghjifgfoaaDoor
open Go.RowKit
set_option linter.unusedVariables false

/-- A piece of a slice. -/
theorem rows_sub {α : Type} {enc : α → List Value} {K : Nat} {w : World} {b off : Nat} {l : List α} (h : RowsAt enc K w (some ⟨b, off, none⟩) l) (k m : Nat) : RowsAt enc K w (some ⟨b, off + k * K, none⟩) ((l.drop k).take m) := fun h0 => by
  have hl : 0 < l.length := by
    rw [List.length_take, List.length_drop] at h0
    omega
  obtain ⟨b', off', e, hb, hc⟩ := h hl
  simp only [Option.some.injEq, Addr.mk.injEq, and_true] at e
  obtain ⟨rfl, rfl⟩ := e
  refine ⟨b, off + k * K, rfl, hb, fun i x hx r hr => ?_⟩
  rw [List.getElem?_take] at hx
  split at hx
  · rw [List.getElem?_drop] at hx
    have := hc (k + i) x hx r hr
    rw [Nat.add_mul] at this
    rw [← this]
    congr 2
    omega
  · cases hx
theorem late_is (c : Option Addr) (kc q : Nat) (xs : List Ins) (now limit : Int) (h0 : 0 ≤ now) (h1 : now ≤ 1099511627776) (h2 : 0 ≤ limit) (h3 : limit ≤ 1099511627776) (w : World) (hF : InsL w c xs) (hm : xs.length ≤ 1000000) (hq : (xs.filter (lateI now limit)).length = q) :
    Calls Tryd.prog 12 #[.slice c xs.length kc, .int .i64 now, .int .i64 limit] w (Gives w (fun v w' => ∃ a k, v = .slice a q k ∧ InsL w' a (xs.filter (lateI now limit)))) :=
  (late_any c kc xs now limit h0 h1 h2 h3 w hF hm).mono fun e w' h => h.weak fun v w' h => by
    obtain ⟨a, k, e, _, hr⟩ := OwnL.isL irow_len (by decide) h
    rw [hq] at e
    exact ⟨a, k, e, hr⟩
theorem coming_is (c : Option Addr) (kc q : Nat) (xs : List Ins) (now limit : Int) (h0 : 0 ≤ now) (h1 : now ≤ 1099511627776) (h2 : 0 ≤ limit) (h3 : limit ≤ 1099511627776) (w : World) (hF : InsL w c xs) (hm : xs.length ≤ 1000000) (hq : (xs.filter (comingI now limit)).length = q) :
    Calls Tryd.prog 14 #[.slice c xs.length kc, .int .i64 now, .int .i64 limit] w (Gives w (fun v w' => ∃ a k, v = .slice a q k ∧ InsL w' a (xs.filter (comingI now limit)))) :=
  (coming_any c kc xs now limit h0 h1 h2 h3 w hF hm).mono fun e w' h => h.weak fun v w' h => by
    obtain ⟨a, k, e, _, hr⟩ := OwnL.isL irow_len (by decide) h
    rw [hq] at e
    exact ⟨a, k, e, hr⟩

theorem grow_len (g : Gp) : (grow g).length = 15 := rfl
theorem RowsAt.new2 {α : Type} {enc : α → List Value} {K : Nat} (hk : ∀ x, (enc x).length = K) (w : World) (o : Obj) (l : List α) (t : TypeId) : RowsAt enc K ((w.alloc o).alloc (.cells (l.flatMap enc).toArray t)) (some ⟨w.heap.size + 1, 0, none⟩) l := by
  have h := RowsAt.new hk (w.alloc o) l t
  rw [World.size_alloc] at h
  exact h
namespace Kn
def m0 : Mac := ⟨⟨#[97]⟩, ⟨#[103]⟩, 0, 0, 0, 0, 0, none, 0, [], none, 0, [], true⟩
def m1 : Mac := ⟨⟨#[98]⟩, ⟨#[103]⟩, 0, 0, 0, 0, 0, none, 0, [], none, 0, [], false⟩
def m2 : Mac := ⟨⟨#[99]⟩, ⟨#[103]⟩, 0, 0, 0, 0, 0, none, 0, [], none, 0, [], true⟩
def m3 : Mac := ⟨⟨#[100]⟩, ⟨#[]⟩, 0, 0, 0, 0, 0, none, 0, [], none, 0, [], false⟩
def i0 : Ins := ⟨⟨#[103, 45, 49]⟩, ⟨#[103]⟩, 4, 0, 9⟩
def i1 : Ins := ⟨⟨#[103, 45, 50]⟩, ⟨#[103]⟩, 1, 0, 2⟩
def i2 : Ins := ⟨⟨#[103, 45, 51]⟩, ⟨#[103]⟩, 2, 0, 8⟩
def i3 : Ins := ⟨⟨#[103, 45, 52]⟩, ⟨#[103]⟩, 3, 0, 0⟩
def g0 : Gp := ⟨⟨#[103]⟩, 0, 9, ⟨⟨#[]⟩, ⟨#[103]⟩, 0, 0, 0, 0, 0, none, 0, [], none, 0, [], true⟩, 0, 0⟩
theorem f_late : [i0, i1, i2, i3].filter (lateI 9 5) = [i0, i1] := by decide +kernel
theorem f_coming : [i0, i1, i2, i3].filter (comingI 9 5) = [i2] := by decide +kernel
theorem f_size : ([i0, i1, i2, i3].filter (szI ⟨#[103]⟩)).length = 3 := by decide +kernel
theorem f_share : shareV [m0, m1, m2, m3] = 333 := by decide +kernel
theorem f_nil : shareV [] = 0 := by decide +kernel
theorem f_light : lightGs [g0] = true := by decide +kernel
theorem f_guests : guestsV [g0] [i2] = [grpM g0 3] := by
  have h : [g0].find? (fun g => strB g.nm i2.gp) = some g0 := by rw [List.find?_cons_of_pos (by decide +kernel)]
  have h2 : numG g0.nm i2.nm = 3 := by decide +kernel
  show guest1 [g0] i2 ++ [] = _
  unfold guest1
  rw [h]
  simp only [h2]
  rfl
theorem f_name : (grpM g0 3).nm = ⟨#[103, 45, 51]⟩ := by decide +kernel
theorem f_ready : (grpM g0 3).rd = true := by decide +kernel
end Kn
open Kn

theorem like_in (w : World) : MacIn w g0.like := ⟨⟨RowsAt.nil, RowsAt.nil, Nat.zero_le _, Nat.zero_le _⟩, fun _ => ⟨rfl, rfl⟩, Nat.zero_le _, fun _ => ⟨rfl, rfl⟩, Nat.zero_le _⟩
theorem one_of {l : List Mac} (h : AlikeL l (guestsV [g0] [i2])) : ∃ m, l = [m] ∧ m.nm = ⟨#[103, 45, 51]⟩ ∧ m.rd = true := by
  rw [f_guests] at h
  match l, h with
  | [m], h =>
    have ha := h.2 0 m _ rfl rfl
    exact ⟨m, rfl, by rw [ha.nm, f_name], by rw [ha.rd, f_ready]⟩

set_option maxRecDepth 100000 in
set_option maxHeartbeats 8000000 in
theorem known_any (w : World) (hT : Tab10 w) :
    Calls Tryd.prog 8 #[] w fun e w' => e = .returned (.bool true) ∧ Below w.heap.size w w' := by
  have HT := Lib.hid hT
  clear hT
  have QL := Lib.hid (fun (V : World) (h : InsL V (some ⟨w.heap.size + 1, 0, none⟩) [i0, i1, i2, i3]) => (show Calls Tryd.prog 12 #[.slice (some ⟨w.heap.size + 1, 0, none⟩) 4 4, .int .i64 9, .int .i64 5] V (Gives V (fun v w' => ∃ a k, v = .slice a 2 k ∧ InsL w' a ([i0, i1, i2, i3].filter (lateI 9 5)))) from late_is (some ⟨w.heap.size + 1, 0, none⟩) 4 2 [i0, i1, i2, i3] 9 5 (by decide) (by decide) (by decide) (by decide) V h (by decide) (by decide +kernel)))
  have QC := Lib.hid (fun (V : World) (h : InsL V (some ⟨w.heap.size + 1, 0, none⟩) [i0, i1, i2, i3]) => (show Calls Tryd.prog 14 #[.slice (some ⟨w.heap.size + 1, 0, none⟩) 4 4, .int .i64 9, .int .i64 5] V (Gives V (fun v w' => ∃ a k, v = .slice a 1 k ∧ InsL w' a ([i0, i1, i2, i3].filter (comingI 9 5)))) from coming_is (some ⟨w.heap.size + 1, 0, none⟩) 4 1 [i0, i1, i2, i3] 9 5 (by decide) (by decide) (by decide) (by decide) V h (by decide) (by decide +kernel)))
  have QG := Lib.hid (fun (V : World) (a a2 : Option Addr) (k2 : Nat) (hT : Tab10 V) (hg : GpL V a [g0]) (hi : InsL V a2 [i2]) => (show Calls Tryd.prog 20 #[.slice a 1 1, .slice a2 1 k2] V (Gives V (fun v w' => ∃ (ms : List Mac) (ad : Option Addr) (k : Nat), v = .slice ad ms.length k ∧ AlikeL ms (guestsV [g0] [i2]) ∧ MacL w' ad ms ∧ ∀ m ∈ ms, MacAt w' m)) from guests_any a a2 1 k2 [g0] [i2] V hT hg (fun g hg => by rw [List.mem_singleton.1 hg]; exact like_in _) f_light hi (by decide) (fun x hx => by rw [List.mem_singleton.1 hx]; decide)))
  go_enter Tryd.func8, Tryd.ntmps8
  go_upto_region 5 with (first
    | (go_at_call 12; (with_reducible refine (QL.out _ ?_).mono ?_); exact RowsAt.new2 irow_len w _ [i0, i1, i2, i3] 29; rintro e w1 ⟨⟨v, rfl, a1, k1, rfl, hr1⟩, hb1⟩; rw [f_late] at hr1; have HL1 := Lib.hid hr1; have hz1 := hb1.size; (try simp at hz1); have HX1 := Lib.hid (show Below w.heap.size w w1 by (repeat' (first | with_reducible exact Below.refl _ _ | with_reducible assumption | with_reducible refine Below.drew ?_ | with_reducible refine below_drewN' ?_ _ | with_reducible refine Below.alloc ?_ ?_ _ | with_reducible refine Below.setCell ?_ ?_ _ | with_reducible refine below_step (by assumption) ?_ ?_ | omega | (simp; done) | (simp; omega)))); have HM1 := Lib.hid (show MacL w1 (some ⟨w.heap.size, 0, none⟩) [m0, m1, m2, m3] from (RowsAt.new mrow_len w [m0, m1, m2, m3] 44).mono (((Below.refl _ _).alloc (Nat.le_refl _) _).trans (hb1.mono (by simp)))); have HI1 := Lib.hid (show InsL w1 (some ⟨w.heap.size + 1, 0, none⟩) [i0, i1, i2, i3] from RowsAt.mono (by exact RowsAt.new2 irow_len w _ [i0, i1, i2, i3] 29) hb1); clear hr1)
    | (go_at_call 14; (with_reducible refine (QC.out _ HI1.out).mono ?_); rintro e w2 ⟨⟨v, rfl, a2, k2, rfl, hr2⟩, hb2⟩; rw [f_coming] at hr2; have HC2 := Lib.hid hr2; have hz2 := hb2.size; have HX2 := Lib.hid (HX1.out.trans (hb2.mono HX1.out.size)); have HL2 := Lib.hid (HL1.out.mono hb2); have HM2 := Lib.hid (HM1.out.mono hb2); have HI2 := Lib.hid (HI1.out.mono hb2); clear hr2))
  (try clear hb1); (try clear hb2)
  go_upto_region 7 with (go_at_call 20; (with_reducible refine (QG.out _ (some ⟨w2.heap.size, 0, none⟩) a2 k2 ?_ ?_ ?_).mono ?_); exact (HT.out.mono (HX2.out.trans (Below.mono (by (repeat' (first | with_reducible exact Below.refl _ _ | with_reducible assumption | with_reducible refine Below.drew ?_ | with_reducible refine below_drewN' ?_ _ | with_reducible refine Below.alloc ?_ ?_ _ | with_reducible refine Below.setCell ?_ ?_ _ | with_reducible refine below_step (by assumption) ?_ ?_ | omega | (simp; done) | (simp; omega)))) HX2.out.size))); exact RowsAt.new grow_len w2 [g0] 59; exact (HC2.out.mono (by (repeat' (first | with_reducible exact Below.refl _ _ | with_reducible assumption | with_reducible refine Below.drew ?_ | with_reducible refine below_drewN' ?_ _ | with_reducible refine Below.alloc ?_ ?_ _ | with_reducible refine Below.setCell ?_ ?_ _ | with_reducible refine below_step (by assumption) ?_ ?_ | omega | (simp; done) | (simp; omega))))); rintro e w3 ⟨⟨v, rfl, ms, ad, k3, rfl, hal, hml, -⟩, hb3⟩; obtain ⟨m, rfl, hnm, hrd⟩ := one_of hal; have hz3 := hb3.size; (try simp at hz3); have hB3 := (show Below w2.heap.size w2 w3 by (repeat' (first | with_reducible exact Below.refl _ _ | with_reducible assumption | with_reducible refine Below.drew ?_ | with_reducible refine below_drewN' ?_ _ | with_reducible refine Below.alloc ?_ ?_ _ | with_reducible refine Below.setCell ?_ ?_ _ | with_reducible refine below_step (by assumption) ?_ ?_ | omega | (simp; done) | (simp; omega)))); have HX3 := Lib.hid (HX2.out.trans (hB3.mono HX2.out.size)); have HL3 := Lib.hid (HL2.out.mono hB3); have HC3 := Lib.hid (HC2.out.mono hB3); have HM3 := Lib.hid (HM2.out.mono hB3); have HI3 := Lib.hid (HI2.out.mono hB3); clear hal; obtain ⟨b3, o3, e3, hbb3, hcc3⟩ := hml (Nat.zero_lt_one); have hcc := mrow10 (hcc3 0 m rfl); rw [hnm, hrd] at hcc; obtain ⟨c0, -, -, -, -, -, -, -, -, c9⟩ := hcc; simp only [Nat.zero_mul, Nat.add_zero] at c0 c9; subst e3; clear hcc3 hml hB3 hb3 hnm hrd hz3)
  have HS3 := Lib.hid (show ∀ V, Below w3.heap.size w3 V → Calls Tryd.prog 9 #[.slice (some ⟨w.heap.size, 0, none⟩) 4 4] V fun e w' => e = .returned (.int .i64 333) ∧ Below V.heap.size V w' from fun V hV => by
    have h := share_any (some ⟨w.heap.size, 0, none⟩) 4 [m0, m1, m2, m3] V (HM3.out.mono hV) (by decide)
    rw [f_share] at h
    exact h)
  have HS4 := Lib.hid (show ∀ V, Calls Tryd.prog 9 #[.slice none 0 0] V fun e w' => e = .returned (.int .i64 0) ∧ Below V.heap.size V w' from fun V => by
    have h := share_any none 0 [] V RowsAt.nil (by decide)
    rw [f_nil] at h
    exact h)
  have HZ3 := Lib.hid (show ∀ V, Below w3.heap.size w3 V → Calls Tryd.prog 16 #[.slice (some ⟨w.heap.size + 1, 0, none⟩) 4 4, .string ⟨#[103]⟩] V fun e w' => e = .returned (.int .i64 3) ∧ Below V.heap.size V w' from fun V hV => by
    have h := size_any (some ⟨w.heap.size + 1, 0, none⟩) 4 [i0, i1, i2, i3] ⟨#[103]⟩ V (HI3.out.mono hV) (by decide)
    rw [f_size] at h
    exact h)
  have HQ := Lib.hid (Below.refl w3.heap.size w3)
  go_wp2_with (first
    | (go_at_call 9; (with_reducible refine (HS3.out _ HQ.out).mono ?_); rintro e w4 ⟨rfl, hb4⟩; obtain ⟨hc4, hf4⟩ := bcell hb4; have hz4 := hb4.size; have z4_0 : b3 < w4.heap.size := (by omega); have y4_0 : b3 ≤ w4.heap.size := (by omega); have HQ4 := Lib.hid (HQ.out.trans (hb4.mono HQ.out.size)))
    | (go_at_call 9; (with_reducible refine (HS4.out _).mono ?_); rintro e w5 ⟨rfl, hb5⟩; obtain ⟨hc5, hf5⟩ := bcell hb5; have hz5 := hb5.size; have z5_0 : b3 < w5.heap.size := (by omega); have y5_0 : b3 ≤ w5.heap.size := (by omega); have HQ5 := Lib.hid (HQ4.out.trans (hb5.mono HQ4.out.size)))
    | (go_at_call 11; (with_reducible refine (insts_same a1 (some ⟨w.heap.size + 1, 0, none⟩) k1 _ 2 [i0, i1] _ (HL3.out.mono HQ5.out) ?_ rfl (by decide)).mono ?_); exact rows_sub (HI3.out.mono HQ5.out) 0 2; rintro e w6 ⟨rfl, hb6⟩; obtain ⟨hc6, hf6⟩ := bcell hb6; have hz6 := hb6.size; have z6_0 : b3 < w6.heap.size := (by omega); have y6_0 : b3 ≤ w6.heap.size := (by omega); have HQ6 := Lib.hid (HQ5.out.trans (hb6.mono HQ5.out.size)))
    | (go_at_call 11; (with_reducible refine (insts_same a2 (some ⟨w.heap.size + 1, 0 + 2 * 5, none⟩) k2 _ 1 [i2] _ (HC3.out.mono HQ6.out) ?_ rfl (by decide)).mono ?_); exact rows_sub (HI3.out.mono HQ6.out) 2 1; rintro e w7 ⟨rfl, hb7⟩; obtain ⟨hc7, hf7⟩ := bcell hb7; have hz7 := hb7.size; have z7_0 : b3 < w7.heap.size := (by omega); have y7_0 : b3 ≤ w7.heap.size := (by omega); have HQ7 := Lib.hid (HQ6.out.trans (hb7.mono HQ6.out.size)))
    | (go_at_call 16; (with_reducible refine (HZ3.out _ HQ7.out).mono ?_); rintro e w8 ⟨rfl, hb8⟩; have hz8 := hb8.size; have HQ8 := Lib.hid (HQ7.out.trans (hb8.mono HQ7.out.size))))
  go_ret
  exact ⟨rfl, HX3.out.trans (HQ8.out.mono HX3.out.size)⟩
end Go.Proofs.YtbomcghjifgfoaaDoor
