/-
  The ledger: what is known.
-/
import Derived.Test.YtaipiflbigpniaaLd3
import Derived.Test.YtaipiflbigpniaaLd5
import Derived.Test.YtaipiflbigpniaaLd7
namespace Go.Proofs.Ytaipiflbigpniaa
open Go.RowKit
set_option linter.unusedVariables false
set_option linter.unusedSimpArgs false

abbrev eG : ByteArray := ⟨#[]⟩
abbrev gL0 : ByteArray := ⟨#[103]⟩
def mL : Mac := ⟨eG, gL0, 0, 0, 0, 0, 0, none, 0, [], none, 0, [], true⟩
def gL : Gp := ⟨gL0, 0, 3, mL, 5, 0⟩
def mZ : Mac := ⟨eG, eG, 0, 0, 0, 0, 0, none, 0, [], none, 0, [], false⟩
def gZ : Gp := ⟨eG, 0, 0, mZ, 0, 0⟩
theorem mL_in (w : World) : MacIn w mL := ⟨⟨RowsAt.nil, RowsAt.nil, Nat.zero_le _, Nat.zero_le _⟩, fun _ => ⟨rfl, rfl⟩, Nat.le_refl _, fun _ => ⟨rfl, rfl⟩, Nat.le_refl _⟩
theorem mZ_in (w : World) : MacIn w mZ := ⟨⟨RowsAt.nil, RowsAt.nil, Nat.zero_le _, Nat.zero_le _⟩, fun _ => ⟨rfl, rfl⟩, Nat.le_refl _, fun _ => ⟨rfl, rfl⟩, Nat.le_refl _⟩
theorem gL_in (w : World) : ∀ g ∈ [gL], MacIn w g.like := fun g hg => by
  obtain rfl : g = gL := by simpa using hg
  exact mL_in _
theorem grow_len (g : Gp) : (grow g).length = 15 := rfl
theorem gL_light : lightGs [gL] = true := by decide +kernel
theorem gL_right : rightGs [gL] = true := by decide +kernel
theorem gZ_light : lightGs [gZ] = true := by decide +kernel
theorem gZ_right : rightGs [gZ] = false := by decide +kernel
theorem new1 (w : World) : Calls Try.prog 10 #[.slice (some ⟨w.heap.size, 0, none⟩) 1 1] (w.alloc (.cells #[.string gL0, .int .i64 0, .int .i64 3, .string eG, .string gL0, .int .i64 0, .int .i64 0, .int .i64 0, .int .i64 0, .int .i64 0, .slice none 0 0, .slice none 0 0, .bool true, .int .i64 5, .int .i64 0] 44)) fun e w' =>
    ∃ b v, e = .returned (.tuple #[.pointer (some ⟨b, 0, none⟩), .int .i64 0]) ∧ LT w' w.heap.size b [⟨gL0, 5, 0, 0⟩] v 0 ∧ Below w.heap.size w w' := by
  refine (lnew_yes (some ⟨w.heap.size, 0, none⟩) [gL] 1 (w.alloc (.cells #[.string gL0, .int .i64 0, .int .i64 3, .string eG, .string gL0, .int .i64 0, .int .i64 0, .int .i64 0, .int .i64 0, .int .i64 0, .slice none 0 0, .slice none 0 0, .bool true, .int .i64 5, .int .i64 0] 44)) (RowsAt.new grow_len w [gL] 44) (gL_in _) gL_light gL_right (by decide)).mono ?_
  rintro e w' ⟨b, v, rfl, hT, hB⟩
  have hs : w.heap.size ≤ (w.alloc (.cells #[.string gL0, .int .i64 0, .int .i64 3, .string eG, .string gL0, .int .i64 0, .int .i64 0, .int .i64 0, .int .i64 0, .int .i64 0, .slice none 0 0, .slice none 0 0, .bool true, .int .i64 5, .int .i64 0] 44)).heap.size := by simp
  refine ⟨b, v, rfl, ⟨hT.row, ?_, hT.ne, Nat.le_trans hs hT.hb⟩, ((Below.refl _ w).alloc (Nat.le_refl _) _).trans (hB.mono hs)⟩
  refine ⟨hT.own.1, ?_⟩
  rcases hT.own.2 with h | ⟨g, cap, cur, e1, h2, h3⟩
  · exact .inl h
  · exact .inr ⟨g, cap, cur, e1, Nat.le_trans hs h2, h3⟩
theorem new2 (w : World) : Calls Try.prog 10 #[.slice (some ⟨w.heap.size, 0, none⟩) 1 1] (w.alloc (.cells #[.string eG, .int .i64 0, .int .i64 0, .string eG, .string eG, .int .i64 0, .int .i64 0, .int .i64 0, .int .i64 0, .int .i64 0, .slice none 0 0, .slice none 0 0, .bool false, .int .i64 0, .int .i64 0] 44)) fun e w' =>
    e = .returned (.tuple #[.pointer none, .int .i64 12]) ∧ Below w.heap.size w w' :=
  (lnew_no (some ⟨w.heap.size, 0, none⟩) [gZ] 1 _ (RowsAt.new grow_len w [gZ] 44) (fun g hg => by
    obtain rfl : g = gZ := by simpa using hg
    exact mZ_in _) gZ_light gZ_right).mono fun e w' ⟨he, hb⟩ => ⟨he, ((Below.refl _ w).alloc (Nat.le_refl _) _).trans (hb.mono (by simp))⟩
theorem rows_only {α : Type} {enc : α → List Value} {K : Nat} {w w' : World} {a : Option Addr} {l : List α} {S : List Nat} (h : RowsAt enc K w a l) (ho : Only S w w') (hs : ∀ q o, a = some ⟨q, o, none⟩ → q ∉ S) : RowsAt enc K w' a l := fun h0 => by
  obtain ⟨b, off, e, hlt, hc⟩ := h h0
  refine ⟨b, off, e, Nat.lt_of_lt_of_le hlt ho.size, fun i x hx r hr => ?_⟩
  rw [World.cell?_of_block (ho.block b hlt (hs b off e))]
  exact hc i x hx r hr
theorem irow_len (x : Ins) : (irow x).length = 5 := rfl
abbrev iL (n g : ByteArray) (s : Int) : Ins := ⟨n, g, s, 0, 0⟩
abbrev l1L : List Ins := [iL ⟨#[103, 45, 49]⟩ gL0 2]
abbrev l2L : List Ins := [iL ⟨#[103, 45, 49]⟩ gL0 2, iL ⟨#[103, 45, 50]⟩ gL0 4, iL ⟨#[103, 45, 51]⟩ gL0 3, iL ⟨#[120]⟩ ⟨#[120]⟩ 2]
theorem cnt1 : cntI l1L gL0 = 1 := by decide +kernel
theorem cnt2 : cntI l2L gL0 = 2 := by decide +kernel
theorem add_l2 : [(⟨gL0, 5, 0, 0⟩ : Ac)].map (addA l2L) = [⟨gL0, 5, 2, 2⟩] := by
  show [addA l2L ⟨gL0, 5, 0, 0⟩] = _
  unfold addA
  dsimp only
  rw [cnt2]
  rfl
theorem add_l1 : [(⟨gL0, 5, 2, 2⟩ : Ac)].map (addA l1L) = [⟨gL0, 5, 3, 2⟩] := by
  show [addA l1L ⟨gL0, 5, 2, 2⟩] = _
  unfold addA
  dsimp only
  rw [cnt1]
  rfl
/-- The known table. -/
structure KT (w0 w : World) (b : Nat) (v : Value) (A : List Ac) (tk : Int) : Prop where
  t : LT w w0.heap.size b A v tk
  bl : Below w0.heap.size w0 w
theorem KT.below {w0 w w' : World} {b : Nat} {v : Value} {A : List Ac} {tk : Int} (h : KT w0 w b v A tk) (hb : Below w.heap.size w w') : KT w0 w' b v A tk := ⟨h.t.below hb, h.bl.trans (hb.mono h.bl.size)⟩
theorem KT.own {w0 w : World} {b : Nat} {v : Value} {A : List Ac} {tk : Int} (h : KT w0 w b v A tk) : ∀ k ∈ b :: v.ownBlock.toList, w0.heap.size ≤ k ∧ k < w.heap.size := fun k hk => by
  rcases List.mem_cons.1 hk with rfl | hk
  · exact ⟨h.t.hb, h.t.row.lt⟩
  · exact own_lt h.t.own (by simpa using hk)
theorem one_ac {x : Ac} (hx : x.nm.size ≤ maxLen ∧ 0 ≤ x.su ∧ x.su ≤ 1000000000 ∧ 0 ≤ x.pk ∧ x.pk ≤ 1000000000) : ∀ y ∈ [x], y.nm.size ≤ maxLen ∧ 0 ≤ y.su ∧ y.su ≤ 1000000000 ∧ 0 ≤ y.pk ∧ y.pk ≤ 1000000000 := fun y hy => by
  obtain rfl : y = x := by simpa using hy
  exact hx
theorem KT.add {w0 w : World} {b : Nat} {v : Value} {x : Ac} {tk : Int} (h : KT w0 w b v [x] tk) (q : Nat) (kc : Nat) (L : List Ins) (hI : InsL w (some ⟨q, 0, none⟩) L) (hq : q ≠ b) (hL : L.length ≤ 1000) (ht0 : 0 ≤ tk) (ht1 : tk ≤ 1000000) (hg : ∀ y ∈ L, y.gp.size ≤ maxLen) (hx : x.nm.size ≤ maxLen ∧ 0 ≤ x.su ∧ x.su ≤ 1000000000 ∧ 0 ≤ x.pk ∧ x.pk ≤ 1000000000) :
    Calls Try.prog 12 #[.pointer (some ⟨b, 0, none⟩), .slice (some ⟨q, 0, none⟩) L.length kc] w fun e w' => e = .returned (.tuple #[]) ∧ KT w0 w' b v ([x].map (addA L)) (tk + 1) ∧ Only (b :: v.ownBlock.toList) w w' :=
  (add_any w0.heap.size b [x] v tk (some ⟨q, 0, none⟩) kc L w h.t hI (fun _ q2 o e => by injection e with e; injection e with e; rw [← e]; exact hq) hL (by simp) ht0 ht1 hg (one_ac hx)).mono fun e w' ⟨he, hT, ho⟩ =>
    ⟨he, ⟨hT, ho.below h.bl h.bl.size (fun k hk => (h.own k hk).1)⟩, ho⟩
theorem kadd2 {w0 w : World} {b : Nat} {v : Value} (h : KT w0 w b v [⟨gL0, 5, 0, 0⟩] 0) :
    Calls Try.prog 12 #[.pointer (some ⟨b, 0, none⟩), .slice (some ⟨w.heap.size + 1, 0, none⟩) 4 4] ((w.alloc (.cells #[.string ⟨#[103, 45, 49]⟩, .string ⟨#[103]⟩, .int .i64 2, .int .i64 0, .int .i64 0] 58)).alloc (.cells #[.string ⟨#[103, 45, 49]⟩, .string ⟨#[103]⟩, .int .i64 2, .int .i64 0, .int .i64 0, .string ⟨#[103, 45, 50]⟩, .string ⟨#[103]⟩, .int .i64 4, .int .i64 0, .int .i64 0, .string ⟨#[103, 45, 51]⟩, .string ⟨#[103]⟩, .int .i64 3, .int .i64 0, .int .i64 0, .string ⟨#[120]⟩, .string ⟨#[120]⟩, .int .i64 2, .int .i64 0, .int .i64 0] 58)) fun e w' =>
      e = .returned (.tuple #[]) ∧ KT w0 w' b v [⟨gL0, 5, 2, 2⟩] 1 ∧ InsL w' (some ⟨w.heap.size, 0, none⟩) l1L := by
  obtain ⟨W1, hW1⟩ : ∃ W, W = w.alloc (.cells #[.string ⟨#[103, 45, 49]⟩, .string ⟨#[103]⟩, .int .i64 2, .int .i64 0, .int .i64 0] 58) := ⟨_, rfl⟩
  have hz : W1.heap.size = w.heap.size + 1 := by rw [hW1]; simp
  have hI1 : InsL W1 (some ⟨w.heap.size, 0, none⟩) l1L := by rw [hW1]; exact RowsAt.new irow_len w l1L 58
  have hB1 : Below w.heap.size w W1 := by rw [hW1]; exact (Below.refl _ _).alloc (Nat.le_refl _) _
  rw [← hW1, ← hz]
  obtain ⟨W2, hW2⟩ : ∃ W, W = W1.alloc (.cells #[.string ⟨#[103, 45, 49]⟩, .string ⟨#[103]⟩, .int .i64 2, .int .i64 0, .int .i64 0, .string ⟨#[103, 45, 50]⟩, .string ⟨#[103]⟩, .int .i64 4, .int .i64 0, .int .i64 0, .string ⟨#[103, 45, 51]⟩, .string ⟨#[103]⟩, .int .i64 3, .int .i64 0, .int .i64 0, .string ⟨#[120]⟩, .string ⟨#[120]⟩, .int .i64 2, .int .i64 0, .int .i64 0] 58) := ⟨_, rfl⟩
  have hI2 : InsL W2 (some ⟨W1.heap.size, 0, none⟩) l2L := by rw [hW2]; exact RowsAt.new irow_len W1 l2L 58
  have hB2 : Below W1.heap.size W1 W2 := by rw [hW2]; exact (Below.refl _ _).alloc (Nat.le_refl _) _
  rw [← hW2]
  have hb := (h.own b List.mem_cons_self).2
  refine (((h.below hB1).below hB2).add W1.heap.size 4 l2L hI2 (by omega) (by decide) (by decide) (by decide) (by decide) (by decide)).mono ?_
  rintro e w' ⟨rfl, hK, ho⟩
  rw [add_l2] at hK
  refine ⟨rfl, hK, rows_only (hI1.mono hB2) ho fun q o e hk => ?_⟩
  injection e with e
  injection e with e
  have := (h.own q hk).2
  omega
theorem kadd1 {w0 w : World} {b q : Nat} {v : Value} (h : KT w0 w b v [⟨gL0, 5, 2, 2⟩] 1) (hI : InsL w (some ⟨q, 0, none⟩) l1L) (hq : q ≠ b) :
    Calls Try.prog 12 #[.pointer (some ⟨b, 0, none⟩), .slice (some ⟨q, 0, none⟩) 1 1] w fun e w' => e = .returned (.tuple #[]) ∧ KT w0 w' b v [⟨gL0, 5, 3, 2⟩] 2 := by
  refine (h.add q 1 l1L hI hq (by decide) (by decide) (by decide) (by decide) (by decide)).mono ?_
  rintro e w' ⟨rfl, hK, ho⟩
  rw [add_l1] at hK
  exact ⟨rfl, hK⟩
theorem okKL : ∀ x ∈ [(⟨gL0, 5, 3, 2⟩ : Ac)], okA x := fun x hx => by
  obtain rfl : x = ⟨gL0, 5, 3, 2⟩ := by simpa using hx
  exact ⟨by decide, by decide, by decide, by decide⟩
theorem fnd1 : findAc [(⟨gL0, 5, 3, 2⟩ : Ac)] gL0 = ⟨gL0, 5, 3, 2⟩ := if_pos rfl
theorem fnd2 : findAc [(⟨gL0, 5, 3, 2⟩ : Ac)] ⟨#[120]⟩ = noAc := if_neg (by decide)
theorem ksum1 {w0 w : World} {b : Nat} {v : Value} (h : KT w0 w b v [⟨gL0, 5, 3, 2⟩] 2) : Calls Try.prog 15 #[.pointer (some ⟨b, 0, none⟩), .string ⟨#[103]⟩] w fun e w' => e = .returned (.int .i64 15) ∧ Below w.heap.size w w' := by
  have h9 := lsum_any _ b _ v 2 gL0 w h.t (by decide) okKL
  rw [fnd1] at h9
  exact h9
theorem ksum2 {w0 w : World} {b : Nat} {v : Value} (h : KT w0 w b v [⟨gL0, 5, 3, 2⟩] 2) : Calls Try.prog 15 #[.pointer (some ⟨b, 0, none⟩), .string ⟨#[120]⟩] w fun e w' => e = .returned (.int .i64 0) ∧ Below w.heap.size w w' := by
  have h9 := lsum_any _ b _ v 2 ⟨#[120]⟩ w h.t (by decide) okKL
  rw [fnd2] at h9
  exact h9
theorem kpeak {w0 w : World} {b : Nat} {v : Value} (h : KT w0 w b v [⟨gL0, 5, 3, 2⟩] 2) : Calls Try.prog 17 #[.pointer (some ⟨b, 0, none⟩), .string ⟨#[103]⟩] w fun e w' => e = .returned (.int .i64 2) ∧ Below w.heap.size w w' := by
  have h9 := lpeak_any _ b _ v 2 gL0 w h.t (by decide)
  rw [fnd1] at h9
  exact h9
theorem ktotal {w0 w : World} {b : Nat} {v : Value} (h : KT w0 w b v [⟨gL0, 5, 3, 2⟩] 2) : Calls Try.prog 21 #[.pointer (some ⟨b, 0, none⟩)] w fun e w' => e = .returned (.int .i64 15) ∧ Below w.heap.size w w' :=
  ltotal_any _ b _ v 2 w h.t (by decide) okKL
theorem kticks {w0 w : World} {b : Nat} {v : Value} (h : KT w0 w b v [⟨gL0, 5, 3, 2⟩] 2) : Calls Try.prog 23 #[.pointer (some ⟨b, 0, none⟩)] w fun e w' => e = .returned (.int .i64 2) ∧ Below w.heap.size w w' :=
  (lticks_any _ b _ v 2 w h.t).mono fun e w' ⟨he, hw⟩ => ⟨he, by rw [hw]; exact Below.refl _ _⟩
theorem kmean1 {w0 w : World} {b : Nat} {v : Value} (h : KT w0 w b v [⟨gL0, 5, 3, 2⟩] 2) : Calls Try.prog 19 #[.pointer (some ⟨b, 0, none⟩), .string ⟨#[103]⟩] w fun e w' => e = .returned (.float .f64 4609434218613702656) ∧ Below w.heap.size w w' :=
  lmean_any _ b _ v 2 gL0 w h.t (by decide) (by decide) _ (by rw [fnd1]; decide +kernel)
theorem kmean2 {w0 w : World} {b : Nat} {v : Value} (h : KT w0 w b v [⟨gL0, 5, 3, 2⟩] 2) : Calls Try.prog 19 #[.pointer (some ⟨b, 0, none⟩), .string ⟨#[120]⟩] w fun e w' => e = .returned (.float .f64 0) ∧ Below w.heap.size w w' :=
  lmean_any _ b _ v 2 ⟨#[120]⟩ w h.t (by decide) (by decide) _ (by rw [fnd2]; decide +kernel)
set_option maxRecDepth 100000 in
set_option maxHeartbeats 8000000 in
theorem known_any (w : World) : Calls Try.prog 9 #[] w fun e w' => e = .returned (.bool true) ∧ Below w.heap.size w w' := by
  go_enter Try.func9, Try.ntmps9
  go_wp2_with (first
    | (go_at_call 10; (with_reducible refine (new1 w).mono ?_); rintro e w1 ⟨b, v, rfl, hT1, hB1⟩; have HK1 := Lib.hid (show KT w w1 b v [⟨gL0, 5, 0, 0⟩] 0 from ⟨hT1, hB1⟩); clear hT1 hB1)
    | (go_at_call 10; (with_reducible refine (new2 w1).mono ?_); rintro e w2 ⟨rfl, hb2⟩; have HK2 := Lib.hid (HK1.out.below hb2); clear hb2)
    | (go_at_call 12; (with_reducible refine (kadd2 HK2.out).mono ?_); rintro e w3 ⟨rfl, hK3, hI3⟩; have HK3 := Lib.hid hK3; have HI3 := Lib.hid hI3; clear hK3 hI3)
    | (go_at_call 12; (with_reducible refine (kadd1 HK3.out HI3.out (Nat.ne_of_gt (HK2.out.own b List.mem_cons_self).2)).mono ?_); rintro e w4 ⟨rfl, hK4⟩; have HK := Lib.hid hK4; clear hK4)
    | (go_at_call 15; (with_reducible refine (ksum1 HK.out).mono ?_); rintro e w9 ⟨rfl, hb⟩; have HK' := Lib.hid (HK.out.below hb); clear HK hb; have HK := HK'; clear HK')
    | (go_at_call 15; (with_reducible refine (ksum2 HK.out).mono ?_); rintro e w9 ⟨rfl, hb⟩; have HK' := Lib.hid (HK.out.below hb); clear HK hb; have HK := HK'; clear HK')
    | (go_at_call 17; (with_reducible refine (kpeak HK.out).mono ?_); rintro e w9 ⟨rfl, hb⟩; have HK' := Lib.hid (HK.out.below hb); clear HK hb; have HK := HK'; clear HK')
    | (go_at_call 19; (with_reducible refine (kmean1 HK.out).mono ?_); rintro e w9 ⟨rfl, hb⟩; have HK' := Lib.hid (HK.out.below hb); clear HK hb; have HK := HK'; clear HK')
    | (go_at_call 19; (with_reducible refine (kmean2 HK.out).mono ?_); rintro e w9 ⟨rfl, hb⟩; have HK' := Lib.hid (HK.out.below hb); clear HK hb; have HK := HK'; clear HK')
    | (go_at_call 21; (with_reducible refine (ktotal HK.out).mono ?_); rintro e w9 ⟨rfl, hb⟩; have HK' := Lib.hid (HK.out.below hb); clear HK hb; have HK := HK'; clear HK')
    | (go_at_call 23; (with_reducible refine (kticks HK.out).mono ?_); rintro e w9 ⟨rfl, hb⟩; have HK' := Lib.hid (HK.out.below hb); clear HK hb; have HK := HK'; clear HK'))
  go_ret
  exact ⟨rfl, HK.out.bl⟩
end Go.Proofs.Ytaipiflbigpniaa
