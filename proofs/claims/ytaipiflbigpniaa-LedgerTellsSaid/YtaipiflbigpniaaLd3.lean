/-
  The ledger: New.
-/
import Derived.Test.YtaipiflbigpniaaLd2
import Derived.Test.YtaipiflbigpniaaTurn
import Derived.Test.YtaipiflbigpniaaGRight
namespace Go.Proofs.Ytaipiflbigpniaa
open Go.RowKit
set_option linter.unusedVariables false
set_option linter.unusedSimpArgs false

def acN (g : Gp) : Ac := ⟨g.nm, g.pr, 0, 0⟩
theorem Try.info60 : (Try.prog.info? 60).map (fun i => (i.zero, i.size, i.bytes)) = some (some (.agg #[.string ⟨#[]⟩, .int .i64 0, .int .i64 0, .int .i64 0]), 4, 40) := by kernel_rfl

set_option maxRecDepth 100000 in
theorem lnew_no (a : Option Addr) (l : List Gp) (ka : Nat) (w : World) (hF : GpL w a l) (hI : ∀ g ∈ l, MacIn w g.like) (hL : lightGs l = true) (hr : rightGs l = false) :
    Calls Try.prog 10 #[.slice a l.length ka] w fun e w' => e = .returned (.tuple #[.pointer none, .int .i64 12]) ∧ Below w.heap.size w w' := by
  have HR := Lib.hid (rightgs_any a l ka w hF hI hL)
  rw [hr] at HR
  clear hF hI hL hr
  go_enter Try.func10, Try.ntmps10
  go_wp2_with (go_at_call 26; (with_reducible refine HR.out.mono ?_); rintro e w1 ⟨rfl, hb1⟩)
  go_ret2
  exact ⟨rfl, hb1⟩

set_option maxRecDepth 100000 in
set_option maxHeartbeats 8000000 in
theorem lnew_yes (a : Option Addr) (l : List Gp) (ka : Nat) (w : World) (hF : GpL w a l) (hI : ∀ g ∈ l, MacIn w g.like) (hL : lightGs l = true) (hr : rightGs l = true) (hl : l.length ≤ 1000) :
    Calls Try.prog 10 #[.slice a l.length ka] w fun e w' => ∃ b v, e = .returned (.tuple #[.pointer (some ⟨b, 0, none⟩), .int .i64 0]) ∧ LT w' w.heap.size b (l.map acN) v 0 ∧ Below w.heap.size w w' := by
  have HR := Lib.hid (rightgs_any a l ka w hF hI hL)
  rw [hr] at HR
  have HF := Lib.hid hF
  obtain ⟨n, hn⟩ : ∃ n, l.length = n := ⟨_, rfl⟩
  rw [hn] at HR hl ⊢
  have Hn := Lib.hid hn
  obtain ⟨i0, hi, hz0, hz1, hz2⟩ := info_parts Try.info60
  have Hi := Lib.hid hi
  have Hz0 := Lib.hid hz0
  have Hz1 := Lib.hid hz1
  have Hz2 := Lib.hid hz2
  clear hF hI hL hr hn hi hz0 hz1 hz2
  go_enter Try.func10, Try.ntmps10
  go_wp2_with (go_at_call 26; (with_reducible refine HR.out.mono ?_); rintro e w1 ⟨rfl, hb1⟩; have HB1 := Lib.hid hb1; have hz1 := hb1.size; clear hb1)
  obtain ⟨B, hBe⟩ : ∃ B, B = w1.heap.size := ⟨_, rfl⟩
  have HLT := Lib.hid (show LT (w1.alloc (.cells #[.pointer (some ⟨w1.heap.size, 0, none⟩), .slice none 0 0, .int .i64 0] 53)) w.heap.size w1.heap.size [] (.slice none 0 0) 0 from ⟨Blk.new w1 53 [.pointer (some ⟨w1.heap.size, 0, none⟩), .slice none 0 0, .int .i64 0], World.ownsRow_nil _ _ _ _, by simp [Value.ownBlock], hz1⟩)
  have HBW := Lib.hid (show Below w.heap.size w (w1.alloc (.cells #[.pointer (some ⟨w1.heap.size, 0, none⟩), .slice none 0 0, .int .i64 0] 53)) from HB1.out.alloc hz1 _)
  have hwB : w.heap.size ≤ B := by omega
  rw [← hBe] at HLT HBW ⊢
  clear hBe
  go_loopw [18] (fun i wr => ∃ (k : Nat) (v : Value), k ≤ n ∧ i = .int .i64 k ∧ LT wr w.heap.size B ((l.take k).map acN) v 0 ∧ Below w.heap.size w wr) (fun i _ => n - (intOf i).toNat)
  case atStart => exact ⟨0, _, Nat.zero_le _, rfl, HLT.out, HBW.out⟩
  case round =>
    clear HLT HBW HB1 HR hz1
    obtain ⟨k, v, hk, rfl, hT, hB⟩ := hrel
    have HT := Lib.hid hT
    have HB := Lib.hid hB
    have hbz := hB.size
    obtain ⟨hcB, hfB⟩ := bcell hB
    clear hT
    by_cases hlt : k < n
    · obtain ⟨x, hx⟩ := mem_at (l := l) (k := k) (by rw [Hn.out]; exact hlt)
      obtain ⟨gb, off, rfl, hgb, hc⟩ := HF.out (by rw [Hn.out]; omega)
      have hgw : gb < wr.heap.size := by omega
      obtain ⟨c0, c1, c2, c3, c4, c5, c6, c7, c8, c9, c10, c11, c12, c13, c14⟩ := grow_cells (hc k x hx)
      have Hx := Lib.hid hx
      clear hc hx
      go_wp2
      obtain ⟨W, hW⟩ : ∃ W, W = wr.alloc (.cells #[.string x.nm, .int .i64 x.mn, .int .i64 x.mx, .string x.like.nm, .string x.like.gp, .int .i64 x.like.r0, .int .i64 x.like.r1, .int .i64 x.like.r2, .int .i64 x.like.r3, .int .i64 x.like.r4, .slice x.like.la x.like.labs.length x.like.lk, .slice x.like.ta x.like.tnts.length x.like.tk, .bool x.like.rd, .int .i64 x.pr, .int .i64 x.rk] 44) := ⟨_, rfl⟩
      obtain ⟨X, hXe⟩ : ∃ X, X = wr.heap.size := ⟨_, rfl⟩
      have hBW : Below wr.heap.size wr W := by rw [hW]; exact (Below.refl _ _).alloc (Nat.le_refl _) _
      have HTW := Lib.hid (HT.out.below hBW)
      have HBW := Lib.hid (HB.out.trans (hBW.mono hbz))
      have hXB : Blk W X 44 (grow x) := by rw [hW, hXe]; exact Blk.new wr 44 (grow x)
      rw [← hW, ← hXe]
      have y0 : W.cell? ⟨X, 0, none⟩ = some (.string x.nm) := hXB.cell 0
      have y1 : W.cell? ⟨X, 13, none⟩ = some (.int .i64 x.pr) := hXB.cell 13
      have b1 : W.cell? ⟨B, 1, none⟩ = some v := HTW.out.row.cell 1
      have fb := HTW.out.row.frozen 1
      have hXl := hXB.lt
      have hBl := HTW.out.row.lt
      have hvX : ∀ q, v.ownBlock = some q → q < X := fun q hq => by rw [hXe]; exact (own_lt HT.out.own hq).2
      obtain ⟨S, hS⟩ : ∃ S, S = v.ownBlock.toList := ⟨_, rfl⟩
      have hBS : B ∉ S := by rw [hS]; simpa using HTW.out.ne
      have hXS : X ∉ S := fun hk => by
        rw [hS] at hk
        have := hvX X (by simpa using hk)
        omega
      have HS := Lib.hid hS
      have HSW := Lib.hid (show ∀ k ∈ S, k < W.heap.size from fun k hk => (own_lt HTW.out.own (by rw [hS] at hk; simpa using hk)).2)
      have hwW : w.heap.size ≤ W.heap.size := by have := HBW.out.size; omega
      have hlen : ((l.take k).map acN).length = k := by rw [List.length_map, List.length_take, Hn.out]; omega
      have Hlen := Lib.hid hlen
      clear hW hXe hBW hXB hvX hS hlen hcB hfB c0 c1 c2 c3 c4 c5 c6 c7 c8 c9 c10 c11 c12 c13 c14 HT HB hB hgw hbz
      have hcH := heldS_cell (S := S)
      refine region_turn S 11 14 (by kernel_rfl) (by kernel_rfl) (by kernel_rfl) ?_
      dsimp only [List.take, List.drop]
      repeat
        ((with_reducible refine turnStep (fun K hK => ?_))
         (have HK := Lib.hid hK)
         clear hK
         (apply turnInl (by decide)
          · intro r n hf
            have Hf := Lib.hid hf
            clear hf
            (first
              | (fail)
              | (unfold relAt
                 go_simp
                 (first | (refine relUpon_val ?_ (Below.refl _ _); exact rfl) | exact rfl | (refine relUpon_enter ?_; fail))))
          (simp only [Act.put, List.setIfInBounds_toArray, List.set_cons_zero, List.set_cons_succ])
          (with_reducible refine HK.out _ _ ?_)
          clear HK K))
      (with_reducible refine turnStep (fun K hK => ?_))
      (have HK := Lib.hid hK)
      clear hK
      refine turnInr (by decide) (NewRow W 60 [.string x.nm, .int .i64 x.pr, .int .i64 0, .int .i64 0] 1) (NewRow.stays HSW.out _ _ _) (fun r n hf => ?_) ?_
      · have Hf := Lib.hid hf
        clear hf HK K
        unfold relAt
        (skip)
        go_simp
        ((refine relUpon_val ?_ ?_; exact NewRow.mk n _ _ _; exact (Below.refl _ _).alloc (Nat.le_refl _) _))
      (simp only [Act.put, List.setIfInBounds_toArray, List.set_cons_zero, List.set_cons_succ])
      (with_reducible refine HK.out _ _ ?_)
      clear HK K
      (with_reducible refine turnStep (fun K hK => ?_))
      (have HK := Lib.hid hK)
      clear hK
      refine turnApp (by decide) (fun u w' => ∃ q cap, u = .slice (some ⟨q, 0, none⟩) (k + 1) cap ∧ w'.ownsRow w.heap.size 60 4 u (k + 1) (((l.take k).map acN).flatMap acc ++ [.string x.nm, .int .i64 x.pr, .int .i64 0, .int .i64 0]) ∧ (v.ownBlock = some q ∨ W.heap.size ≤ q)) ((fun u w1 w' hb ⟨q, cap, e, h, h'⟩ => ⟨q, cap, e, own_kept h hb, h'⟩)) (fun r n hf => ?_) ?_
      · have Hf := Lib.hid hf
        clear hf HK K
        ((obtain ⟨Bx, e1, hB, hb⟩ := given_at Hf.out 0 rfl (by dsimp only; decide +kernel); refine turn_append rfl _ _ _ rfl w.heap.size 60 i0 _ 4 40 Try.underlying51 Hi.out Hz0.out Hz1.out Hz2.out rfl (by decide) v k (((l.take k).map acN).flatMap acc) rfl (by (have h9 := own_kept HTW.out.own n.below); rw [Hlen.out] at h9; exact h9) ⟨Bx, 0, none⟩ 1 1 [.string x.nm, .int .i64 x.pr, .int .i64 0, .int .i64 0] e1 rfl (NewRow.news hb) (by simp [Value.oneCell']) (by decide) (by unfold maxLen; omega) (by omega) (by have := n.below.size; omega) (fun q hq => by rw [HS.out, hq]; simp) ?_; intro q cap w' k1 k2 k3; exact ⟨q, cap, rfl, k1, k3.imp_right (fun e => by rw [e]; exact n.below.size)⟩))
      (simp only [Act.put, List.setIfInBounds_toArray, List.set_cons_zero, List.set_cons_succ])
      (with_reducible refine HK.out _ _ ?_)
      clear HK K
      repeat
        ((with_reducible refine turnStep (fun K hK => ?_))
         (have HK := Lib.hid hK)
         clear hK
         (apply turnInl (by decide)
          · intro r n hf
            have Hf := Lib.hid hf
            clear hf
            (first
              | (fail)
              | (unfold relAt
                 go_simp
                 (first | (refine relUpon_val ?_ (Below.refl _ _); exact rfl) | exact rfl | (refine relUpon_enter ?_; fail))))
          (simp only [Act.put, List.setIfInBounds_toArray, List.set_cons_zero, List.set_cons_succ])
          (with_reducible refine HK.out _ _ ?_)
          clear HK K))
      refine turnNil ?_
      intro r4 n4 hx4
      clear hcH
      (try simp only [List.nil_append, List.cons_append, List.mem_cons, List.not_mem_nil, or_false, forall_eq_or_imp, forall_eq, false_implies, implies_true] at hx4)
      obtain ⟨w4, ho4⟩ := n4
      (try dsimp only)
      obtain ⟨-, q, cap, e1, hown, hq⟩ := hx4
      rw [e1] at hown ⊢
      have f4 : w4.frozen? ⟨B, 1, none⟩ = false := (World.frozen?_of_block (ho4.block B hBl hBS)).trans fb
      have x4 : w4.cell? ⟨B, 1, none⟩ = some v := (World.cell?_of_block (ho4.block B hBl hBS)).trans b1
      have HOW := Lib.hid hown
      have hqB : q ≠ B := by
        rcases hq with hq | hq
        · exact fun e => hBS (by rw [HS.out, hq, e]; simp)
        · omega
      have hqw : w.heap.size ≤ q := by
        rcases hq with hq | hq
        · exact (own_lt HTW.out.own hq).1
        · omega
      have hrows : (l.take (k + 1)).map acN = (l.take k).map acN ++ [acN x] := by rw [take_at Hx.out, List.map_append]; rfl
      have HT5 := Lib.hid (show LT (w4.setCell ⟨B, 1, none⟩ (.slice (some ⟨q, 0, none⟩) (k + 1) cap)) w.heap.size B ((l.take (k + 1)).map acN) (.slice (some ⟨q, 0, none⟩) (k + 1) cap) 0 from by
        refine ⟨(HTW.out.row.only ho4 hBS).set 1 _, ?_, fun e => hqB (Option.some.inj e), hwB⟩
        have e2 : ((l.take k).map acN ++ [acN x]).flatMap acc = ((l.take k).map acN).flatMap acc ++ [.string x.nm, .int .i64 x.pr, .int .i64 0, .int .i64 0] := by
          rw [List.flatMap_append]
          rfl
        rw [hrows, e2, List.length_append, Hlen.out]
        exact own_same HOW.out fun z hz => Below.heap_setCell _ _ _ _ (fun e => hqB (by obtain rfl : q = z := Option.some.inj hz; exact e)))
      have HB5 := Lib.hid (show Below w.heap.size w (w4.setCell ⟨B, 1, none⟩ (.slice (some ⟨q, 0, none⟩) (k + 1) cap)) from (ho4.below HBW.out hwW (fun z hz => by
        rw [HS.out] at hz
        exact (own_lt HTW.out.own (by simpa using hz)).1)).setCell hwB _)
      clear hown hq HOW
      go_wp2
      go_roundw
      case rel => exact ⟨k + 1, _, by omega, by go_num, HT5.out, HB5.out⟩
      case measure => simp [intOf]; omega
    · obtain rfl : k = n := by omega
      have he : (l.take k).map acN = l.map acN := by rw [List.take_of_length_le (Nat.le_of_eq Hn.out)]
      have HE := Lib.hid he
      clear he
      go_wp2
      go_ret2
      exact ⟨B, v, rfl, by rw [← HE.out]; exact HT.out, HB.out⟩
end Go.Proofs.Ytaipiflbigpniaa
