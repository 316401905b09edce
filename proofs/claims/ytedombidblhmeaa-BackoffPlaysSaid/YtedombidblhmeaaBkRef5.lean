/-
  The document's table: Fail.
-/
import Derived.Test.YtedombidblhmeaaBkRef4
import Derived.Test.YtedombidblhmeaaTurn
namespace Go.Proofs.Ytedombidblhmeaa
open Go.RowKit
set_option linter.unusedVariables false
set_option linter.unusedSimpArgs false

theorem rfail_off (p : Nat) (g : ByteArray) (now : Int) (w : World) (ht : timeB now = false) :
    Calls Try.prog 10 #[.pointer (some ⟨p, 0, none⟩), .string g, .int .i64 now] w fun e w' => e = .returned (.int .i64 0) ∧ w' = w := by
  have HT := Lib.hid ht
  clear ht
  go_enter Try.func10, Try.ntmps10
  go_wp2_with (go_at_call 25; (with_reducible refine (rtime_any now _).mono ?_); rw [HT.out]; rintro e w2 ⟨rfl, rfl⟩)
  go_ret
  exact ⟨rfl, rfl⟩

def turnS (p : Nat) (v : Value) : List Nat := p :: v.ownBlock.toList
set_option maxRecDepth 100000 in
set_option maxHeartbeats 8000000 in
theorem rfail_miss (base p : Nat) (fi mo re : Int) (M : List Nt) (v : Value) (g : ByteArray) (now nn : Int) (w : World) (h : RT w base p fi mo re M v) (hu : ∀ x ∈ M, x.1 ≠ g) (hM : M.length ≤ 1000000) (ht : timeB now = true) (h0 : 0 ≤ fi) (h1 : fi ≤ 1099511627776) :
    Calls Try.prog 10 #[.pointer (some ⟨p, 0, none⟩), .string g, .int .i64 now] w fun e w' => e = .returned (.int .i64 fi) ∧ ∃ v', RT w' base p fi mo re (M ++ [(g, ⟨fi, now + fi, nn⟩)]) v' ∧ Only (turnS p v) w w' ∧ ∀ q, v'.ownBlock = some q → v.ownBlock = some q ∨ w.heap.size ≤ q := by
  have hn := of_decide_eq_true ht
  have HP := Lib.hid (place_miss base p fi mo re M v g w h hu hM)
  have Hh := Lib.hid h
  have HT := Lib.hid ht
  have c0 := h.row.cell 0
  have c1 := h.row.cell 1
  have f0 := h.row.frozen 0
  dsimp only [List.getElem?_cons_zero, List.getElem?_cons_succ] at c0 c1
  have hp := h.row.lt
  have hpb := h.hp
  have hwr : IntKind.i64.wrap (now + fi) = now + fi := wrap_in (by omega) (by omega)
  obtain ⟨i0, hi, hz0, hz1, hz2⟩ := info_parts Try.info57
  have hnb := h.ne
  clear h hu ht
  go_enter Try.func10, Try.ntmps10
  go_wp2_with (first
    | (go_at_call 25; (with_reducible refine (rtime_any now _).mono ?_); rw [HT.out]; rintro e w2 ⟨rfl, rfl⟩)
    | (go_at_call 28; (with_reducible refine HP.out.mono ?_); rintro e w1 ⟨rfl, rfl⟩))
  obtain ⟨W, hW⟩ : ∃ W, W = w1 := ⟨_, rfl⟩
  rw [← hW] at c0 c1 f0 hp Hh ⊢
  have HWe := Lib.hid hW
  clear hW HP
  obtain ⟨S, hS⟩ : ∃ S, S = v.ownBlock.toList := ⟨_, rfl⟩
  have hpS : p ∉ S := by rw [hS]; simpa using hnb
  have hSW : ∀ k ∈ S, k < W.heap.size := fun k hk => (own_lt Hh.out.own (by rw [hS] at hk; simpa using hk)).2
  have HS := Lib.hid hS
  have HSW := Lib.hid hSW
  have Hi := Lib.hid hi
  have Hz0 := Lib.hid hz0
  have Hz1 := Lib.hid hz1
  have Hz2 := Lib.hid hz2
  clear hS hSW hi hz0 hz1 hz2 hnb
  have hcH := heldS_cell (S := S)
  refine region_turn S 18 21 (by kernel_rfl) (by kernel_rfl) (by kernel_rfl) ?_
  dsimp only [List.take, List.drop]
  repeat
    ((with_reducible refine turnStep (fun K hK => ?_))
     (have HK := Lib.hid hK)
     clear hK
     (apply turnInl (by decide)
      · intro r n hf
        have Hf := Lib.hid hf
        clear hf
        (first
          | (fail)
          | (unfold relAt
             go_simp
             (first | (refine relUpon_val ?_ (Below.refl _ _); exact rfl) | exact rfl | (refine relUpon_enter ?_; fail))))
      (simp only [Act.put, List.setIfInBounds_toArray, List.set_cons_zero, List.set_cons_succ])
      (with_reducible refine HK.out _ _ ?_)
      clear HK K))
  (with_reducible refine turnStep (fun K hK => ?_))
  (have HK := Lib.hid hK)
  clear hK
  refine turnInr (by decide) (NewRow W 57 [.string g, .int .i64 fi, .int .i64 (now + fi)] 1) (NewRow.stays HSW.out _ _ _) (fun r n hf => ?_) ?_
  · have Hf := Lib.hid hf
    clear hf HK K
    unfold relAt
    (skip)
    go_simp
    ((refine relUpon_val ?_ ?_; exact NewRow.mk n _ _ _; exact (Below.refl _ _).alloc (Nat.le_refl _) _))
  (simp only [Act.put, List.setIfInBounds_toArray, List.set_cons_zero, List.set_cons_succ])
  (with_reducible refine HK.out _ _ ?_)
  clear HK K
  (with_reducible refine turnStep (fun K hK => ?_))
  (have HK := Lib.hid hK)
  clear hK
  refine turnApp (by decide) (fun u w => ∃ q cap, u = .slice (some ⟨q, 0, none⟩) (M.length + 1) cap ∧ w.ownsRow base 57 3 u (M.length + 1) (M.flatMap ntc ++ [.string g, .int .i64 fi, .int .i64 (now + fi)]) ∧ (v.ownBlock = some q ∨ W.heap.size ≤ q)) ((fun u w w' hb ⟨q, cap, e, h, h'⟩ => ⟨q, cap, e, own_kept h hb, h'⟩)) (fun r n hf => ?_) ?_
  · have Hf := Lib.hid hf
    clear hf HK K
    ((obtain ⟨B, e1, hB, hb⟩ := given_at Hf.out 0 rfl (by dsimp only; decide +kernel); refine turn_append rfl _ _ _ rfl base 57 i0 _ 3 32 Try.underlying35 Hi.out Hz0.out Hz1.out Hz2.out rfl (by decide) v M.length (M.flatMap ntc) rfl (own_kept Hh.out.own n.below) ⟨B, 0, none⟩ 1 1 [.string g, .int .i64 fi, .int .i64 (now + fi)] e1 rfl (NewRow.news hb) (by simp [Value.oneCell']) (by decide) (by unfold maxLen; omega) (by omega) (by have := n.below.size; omega) (fun q hq => by rw [HS.out, hq]; simp) ?_; intro q cap w' k1 k2 k3; exact ⟨q, cap, rfl, k1, k3.imp_right (fun e => by rw [e]; exact n.below.size)⟩))
  (simp only [Act.put, List.setIfInBounds_toArray, List.set_cons_zero, List.set_cons_succ])
  (with_reducible refine HK.out _ _ ?_)
  clear HK K
  repeat
    ((with_reducible refine turnStep (fun K hK => ?_))
     (have HK := Lib.hid hK)
     clear hK
     (apply turnInl (by decide)
      · intro r n hf
        have Hf := Lib.hid hf
        clear hf
        (first
          | (fail)
          | (unfold relAt
             go_simp
             (first | (refine relUpon_val ?_ (Below.refl _ _); exact rfl) | exact rfl | (refine relUpon_enter ?_; fail))))
      (simp only [Act.put, List.setIfInBounds_toArray, List.set_cons_zero, List.set_cons_succ])
      (with_reducible refine HK.out _ _ ?_)
      clear HK K))
  refine turnNil ?_
  intro r4 n4 hx4
  clear hcH
  (try simp only [List.nil_append, List.cons_append, List.mem_cons, List.not_mem_nil, or_false, forall_eq_or_imp, forall_eq, false_implies, implies_true] at hx4)
  obtain ⟨w4, ho4⟩ := n4
  (try dsimp only)
  obtain ⟨-, q, cap, e1, hown, hq⟩ := hx4
  rw [e1]
  have f4 : w4.frozen? ⟨p, 0, none⟩ = false := (World.frozen?_of_block (ho4.block p hp hpS)).trans f0
  have x4 : w4.cell? ⟨p, 0, none⟩ = some v := (World.cell?_of_block (ho4.block p hp hpS)).trans c0
  have x5 : w4.cell? ⟨p, 1, none⟩ = some (.int .i64 fi) := (World.cell?_of_block (ho4.block p hp hpS)).trans c1
  rw [e1] at hown
  have HOW := Lib.hid hown
  clear hown
  go_wp2
  go_ret
  obtain rfl := HWe.out
  have hqp : q ≠ p := by
    rcases hq with hq | hq
    · exact fun e => hpS (by rw [HS.out, hq, e]; simp)
    · omega
  have hrows : (M ++ [((g, ⟨fi, now + fi, nn⟩) : Nt)]).flatMap ntc = M.flatMap ntc ++ [.string g, .int .i64 fi, .int .i64 (now + fi)] := by simp [ntc]
  refine ⟨rfl, _, ⟨(Hh.out.row.only ho4 hpS).set 0 _, ?_, ?_, hpb⟩, ((ho4.mono (fun k hk => ?_)).setCell (.inl ?_) _), fun k hk => ?_⟩
  · rw [hrows, List.length_append]
    exact own_same HOW.out fun k hk => Below.heap_setCell _ _ _ _ (fun e => hqp (by obtain rfl : q = k := Option.some.inj hk; exact e))
  · intro e
    exact hqp (Option.some.inj e)
  · rw [HS.out] at hk
    exact List.mem_cons_of_mem _ hk
  · exact List.mem_cons_self
  · obtain rfl : q = k := Option.some.inj hk
    exact hq
end Go.Proofs.Ytedombidblhmeaa
