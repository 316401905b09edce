/-
  Budgets: find, Spare.
-/
import Derived.Test.YtkmhicoimgpdlaaBg1
namespace Go.Proofs.Ytkmhicoimgpdlaa
open Go.RowKit
set_option linter.unusedVariables false
set_option linter.unusedSimpArgs false

def stQ (nm : ByteArray) (r : Bool) (b : Bd) : Bool := stB b.p.nm nm (runB b) r
theorem idx_none {α : Type} {p : α → Bool} {l : List α} (h : l.any p = false) : Lb.idxI p l = -1 := by
  unfold Lb.idxI
  rw [if_neg (by rw [h]; exact Bool.false_ne_true)]
set_option maxRecDepth 100000 in
set_option maxHeartbeats 8000000 in
theorem bfind_any (a : Option Addr) (ka : Nat) (bs : List Bd) (nm : ByteArray) (rr : Bool) (w : World) (hF : BndL w a bs) (hl : bs.length ≤ 1000000) :
    Calls Try.prog 81 #[.slice a bs.length ka, .agg #[.string nm, .bool rr]] w fun e w' => e = .returned (.int .i64 (Lb.idxI (stQ nm rr) bs)) ∧ Below w.heap.size w w' := by
  obtain ⟨n, hn⟩ : ∃ n, bs.length = n := ⟨_, rfl⟩
  have HY := Lib.hid (fun (k : Nat) (x : Bd) (h : bs[k]? = some x) (h2 : (bs.take k).any (stQ nm rr) = false) (h3 : stQ nm rr x = true) => Lb.idx_at h h2 h3)
  have HZ := Lib.hid (fun (h : bs.any (stQ nm rr) = false) => idx_none h)
  obtain ⟨R, hR⟩ : ∃ R, Lb.idxI (stQ nm rr) bs = R := ⟨_, rfl⟩
  rw [hR] at HY HZ ⊢
  have Hn := Lib.hid hn
  have HF := Lib.hid hF
  rw [hn] at hl ⊢
  obtain ⟨W, hW⟩ : ∃ W, W = (w.alloc (.cells #[.string nm, .bool rr] 113)) := ⟨_, rfl⟩
  have HX := Lib.hid (show Box w.heap.size [.string nm, .bool rr] W by rw [hW]; exact (Box.new w [.string nm, .bool rr] 113))
  have HB := Lib.hid (show Below w.heap.size w W by rw [hW]; exact (Below.refl _ _).alloc (Nat.le_refl _) _)
  clear hn hF hR
  go_enter Try.func81, Try.ntmps81
  go_upto_region 1 with (fail)
  rw [← hW]
  clear hW
  go_wp2
  go_loopw [8] (fun vi wr => ∃ k : Nat, k ≤ n ∧ vi = .int .i64 k ∧ (bs.take k).any (stQ nm rr) = false ∧ Below W.heap.size W wr) (fun vi _ => n - (intOf vi).toNat)
  case atStart => exact ⟨0, Nat.zero_le _, rfl, rfl, Below.refl _ _⟩
  case round =>
    obtain ⟨k, hk, rfl, hE, hB⟩ := hrel
    have HBr := Lib.hid hB
    have hbw := HB.out.trans (hB.mono HB.out.size)
    by_cases hlt : k < n
    · obtain ⟨x, hx⟩ := mem_at (l := bs) (k := k) (by rw [Hn.out]; exact hlt)
      obtain ⟨q, o, rfl, hq, hc⟩ := (HF.out.mono hbw) (by rw [Hn.out]; omega)
      have HRq := Lib.hid (show wr.rangeAt q (o + k * 21) [.string (x.p).nm, .int .i64 (x.p).n0, .int .i64 (x.p).n1, .int .i64 (x.p).n2, .int .i64 (x.p).n3, .int .i64 (x.p).n4, .slice (x.p).la (x.p).labs.length (x.p).lk, .slice (x.p).sa (x.p).sels.length (x.p).sk, .slice (x.p).ta (x.p).trms.length (x.p).tk, .slice (x.p).ba (x.p).bers.length (x.p).bk, .slice (x.p).pa (x.p).prts.length (x.p).pk, .slice (x.p).aa (x.p).aprs.length (x.p).ak, .bool (x.p).wd, .slice (x.p).da (x.p).spds.length (x.p).dk, .int .i64 (x.p).sw, .int .i64 (x.p).rk, .string (x.p).ow, .bool (x.p).dm, .bool (x.p).pn, .bool (x.p).lc, .string x.on] from fun j v hj => by
        have hj21 : j < 21 := (List.getElem?_eq_some_iff.1 hj).1
        rw [hc k x hx j hj21]
        exact hj)
      have HRs := Lib.hid (show wr.rangeAt w.heap.size 0 [.string nm, .bool rr] from (HX.out.mono hB).range)
      have hlx := (HX.out.mono hB).lt
      have HSt := Lib.hid (show ∀ V, Calls Try.prog 89 #[.agg #[.string (x.p).nm, .int .i64 (x.p).n0, .int .i64 (x.p).n1, .int .i64 (x.p).n2, .int .i64 (x.p).n3, .int .i64 (x.p).n4, .slice (x.p).la (x.p).labs.length (x.p).lk, .slice (x.p).sa (x.p).sels.length (x.p).sk, .slice (x.p).ta (x.p).trms.length (x.p).tk, .slice (x.p).ba (x.p).bers.length (x.p).bk, .slice (x.p).pa (x.p).prts.length (x.p).pk, .slice (x.p).aa (x.p).aprs.length (x.p).ak, .bool (x.p).wd, .slice (x.p).da (x.p).spds.length (x.p).dk, .int .i64 (x.p).sw, .int .i64 (x.p).rk, .string (x.p).ow, .bool (x.p).dm, .bool (x.p).pn, .bool (x.p).lc, .string x.on]] V fun e w' => e = .returned (.agg #[.string x.p.nm, .bool (runB x)]) ∧ Below V.heap.size V w' from fun V => standing_any x V)
      have HYes := Lib.hid (fun h => HY.out k x hx hE h)
      have HNo := Lib.hid (fun (h : stQ nm rr x = false) => show (bs.take (k + 1)).any (stQ nm rr) = false from Lb.any_take1 hx h hE)
      have hst : stQ nm rr x = stB x.p.nm nm (runB x) rr := rfl
      rw [hst] at HYes HNo
      have heq := fun w => eql_stand x.p.nm nm (runB x) rr w
      have hge := guard_stand
      obtain ⟨s, hs⟩ : ∃ s, stB x.p.nm nm (runB x) rr = s := ⟨_, rfl⟩
      rw [hs] at HYes HNo
      simp only [hs] at heq
      have HBw := Lib.hid hbw
      clear hE hB hc hx hst hs hbw
      go_upto_region 4 with (fail)
      have hcH := held_cell
      refine region_rel (by kernel_rfl) (by kernel_rfl) ?_
      repeat
        ((with_reducible refine relStep (fun K hK => ?_))
         (have HK := Lib.hid hK)
         clear hK
         (apply relInl
          · intro r n hf
            have Hf := Lib.hid hf
            clear hf
            (first
              | ((first | ((with_reducible refine at_rel (ty := 64) ?_); refine rel_load rfl q (o + k * 21) rfl [.string (x.p).nm, .int .i64 (x.p).n0, .int .i64 (x.p).n1, .int .i64 (x.p).n2, .int .i64 (x.p).n3, .int .i64 (x.p).n4, .slice (x.p).la (x.p).labs.length (x.p).lk, .slice (x.p).sa (x.p).sels.length (x.p).sk, .slice (x.p).ta (x.p).trms.length (x.p).tk, .slice (x.p).ba (x.p).bers.length (x.p).bk, .slice (x.p).pa (x.p).prts.length (x.p).pk, .slice (x.p).aa (x.p).aprs.length (x.p).ak, .bool (x.p).wd, .slice (x.p).da (x.p).spds.length (x.p).dk, .int .i64 (x.p).sw, .int .i64 (x.p).rk, .string (x.p).ow, .bool (x.p).dm, .bool (x.p).pn, .bool (x.p).lc, .string x.on] _ Try.underlying64 rfl (by kernel_rfl) (rangeAt_mono HRq.out hq n.below) rfl) | ((with_reducible refine at_rel (ty := 113) ?_); refine rel_load rfl w.heap.size 0 rfl [.string nm, .bool rr] _ Try.underlying113 rfl (by kernel_rfl) (rangeAt_mono HRs.out hlx n.below) rfl)))
              | (unfold relAt
                 go_simp
                 (first | (refine relUpon_val ?_ (Below.refl _ _); exact rfl) | exact rfl | (refine relUpon_enter ?_; (go_at_call 89; (with_reducible refine (HSt.out _).mono ?_); rintro e w9 ⟨rfl, hb⟩; exact ⟨⟨_, rfl, rfl⟩, hb⟩)))))
          (simp only [Act.put, List.setIfInBounds_toArray, List.set_cons_zero, List.set_cons_succ])
          (with_reducible refine HK.out _ _ ?_)
          clear HK K))
      refine relNil ?_
      intro r9 n9 hx9
      clear hcH
      (try simp only [List.nil_append, List.cons_append, List.mem_cons, List.not_mem_nil, or_false, forall_eq_or_imp, forall_eq, false_implies, implies_true] at hx9)
      obtain ⟨w9, hb9⟩ := n9
      (try dsimp only)
      obtain ⟨hc9, hf9⟩ := bcell hb9
      have hz9 := hb9.size
      (try simp at hz9)
      have HB9 := Lib.hid (HBr.out.trans (hb9.mono HBr.out.size))
      clear heq hge
      cases s with
      | true =>
        have HR := Lib.hid (HYes.out rfl)
        clear HYes HNo
        go_wp2
        go_ret
        exact ⟨by first | rfl | (rw [HR.out]; first | done | rfl), HB.out.trans (HB9.out.mono HB.out.size)⟩
      | false =>
        have HNx := Lib.hid (HNo.out rfl)
        clear HYes HNo
        go_wp2
        go_roundw
        case rel => exact ⟨k + 1, by omega, by go_num, HNx.out, HB9.out⟩
        case measure => simp [intOf]; omega
    · obtain rfl : k = n := by omega
      have HR := Lib.hid (HZ.out (by
        have h9 := hE
        rw [List.take_of_length_le (by rw [Hn.out]; exact Nat.le_refl _)] at h9
        exact h9))
      have HBw := Lib.hid hbw
      clear hE hB hbw
      go_wp2
      go_ret
      exact ⟨by first | rfl | (rw [HR.out]; first | done | rfl), HBw.out⟩
/-- How many pods a budget covers that run. -/
def covB (b : Bg) (x : Bd) : Bool := runB x && Lb.hasP x.p.labs b.mt
def spareB (b : Bg) (bs : List Bd) : Int := ((bs.filter (covB b)).length : Int) - b.le
set_option maxRecDepth 100000 in
set_option maxHeartbeats 8000000 in
theorem spare_any (b : Bg) (a : Option Addr) (ka : Nat) (bs : List Bd) (w : World) (hB : BgIn w b) (hF : BndL w a bs) (hI : ∀ x ∈ bs, PodAt w x.p) (hl : bs.length ≤ 1000000) (hlm : b.mt.length ≤ 1000000) (hlb : ∀ x ∈ bs, x.p.labs.length ≤ 1000000) (h0 : 0 ≤ b.le) (h1 : b.le ≤ 1000000) :
    Calls Try.prog 88 #[.agg (bgrow b).toArray, .slice a bs.length ka] w fun e w' => e = .returned (.int .i64 (spareB b bs)) ∧ Below w.heap.size w w' := by
  obtain ⟨n, hn⟩ : ∃ n, bs.length = n := ⟨_, rfl⟩
  have HC := Lib.hid (fun (x : Bd) (hx : x ∈ bs) V (hV : Below w.heap.size w V) => covers_any b x.p V (hB.mono hV) ((hI x hx).mono hV) hlm (hlb x hx))
  have Hn := Lib.hid hn
  have HF := Lib.hid hF
  rw [hn] at hl ⊢
  obtain ⟨W, hW⟩ : ∃ W, W = (w.alloc (.cells #[.string b.nm, .slice b.ma b.mt.length b.mk', .int .i64 b.le] 53)) := ⟨_, rfl⟩
  have HX := Lib.hid (show Box w.heap.size (bgrow b) W by rw [hW]; exact (Box.new w (bgrow b) 53))
  have HBw := Lib.hid (show Below w.heap.size w W by rw [hW]; exact (Below.refl _ _).alloc (Nat.le_refl _) _)
  show Calls Try.prog 88 #[.agg #[.string b.nm, .slice b.ma b.mt.length b.mk', .int .i64 b.le], .slice a n ka] w _
  clear hn hF hI hlb hB hlm
  go_enter Try.func88, Try.ntmps88
  go_upto_region 1 with (fail)
  rw [← hW]
  clear hW
  go_wp2
  go_loopw [5, 9] (fun vs vi wr => ∃ k : Nat, k ≤ n ∧ vi = .int .i64 k ∧ vs = .int .i64 (((bs.take k).filter (covB b)).length : Nat) ∧ Below W.heap.size W wr) (fun _ vi _ => n - (intOf vi).toNat)
  case atStart => exact ⟨0, Nat.zero_le _, rfl, rfl, Below.refl _ _⟩
  case round =>
    obtain ⟨k, hk, rfl, rfl, hB⟩ := hrel
    have HBr := Lib.hid hB
    have hbw := HBw.out.trans (hB.mono HBw.out.size)
    have hcl := List.length_filter_le (covB b) (bs.take k)
    have hcl2 := List.length_take_le k bs
    by_cases hlt : k < n
    · obtain ⟨x, hx⟩ := mem_at (l := bs) (k := k) (by rw [Hn.out]; exact hlt)
      obtain ⟨q, o, rfl, hq, hc⟩ := (HF.out.mono hbw) (by rw [Hn.out]; omega)
      have HRq := Lib.hid (show wr.rangeAt q (o + k * 21) [.string (x.p).nm, .int .i64 (x.p).n0, .int .i64 (x.p).n1, .int .i64 (x.p).n2, .int .i64 (x.p).n3, .int .i64 (x.p).n4, .slice (x.p).la (x.p).labs.length (x.p).lk, .slice (x.p).sa (x.p).sels.length (x.p).sk, .slice (x.p).ta (x.p).trms.length (x.p).tk, .slice (x.p).ba (x.p).bers.length (x.p).bk, .slice (x.p).pa (x.p).prts.length (x.p).pk, .slice (x.p).aa (x.p).aprs.length (x.p).ak, .bool (x.p).wd, .slice (x.p).da (x.p).spds.length (x.p).dk, .int .i64 (x.p).sw, .int .i64 (x.p).rk, .string (x.p).ow, .bool (x.p).dm, .bool (x.p).pn, .bool (x.p).lc] from fun j v hj => by
        have hj20 : j < 20 := (List.getElem?_eq_some_iff.1 hj).1
        rw [hc k x hx j (by omega)]
        show (prow x.p ++ [.string x.on])[j]? = _
        rw [List.getElem?_append_left (by rw [prow_len]; exact hj20)]
        exact hj)
      have c20 : wr.cell? ⟨q, o + k * 21 + 20, none⟩ = some (.string x.on) := hc k x hx 20 (by decide)
      have HRs := Lib.hid (show wr.rangeAt w.heap.size 0 [.string b.nm, .slice b.ma b.mt.length b.mk', .int .i64 b.le] from (HX.out.mono hB).range)
      have hlx := (HX.out.mono hB).lt
      have hnx : ((bs.take (k + 1)).filter (covB b)).length = ((bs.take k).filter (covB b)).length + if covB b x = true then 1 else 0 := by
        rw [filt_next hx, List.length_append]
        split <;> rfl
      obtain ⟨cn, hcn⟩ : ∃ c, ((bs.take k).filter (covB b)).length = c := ⟨_, rfl⟩
      rw [hcn] at hnx hcl ⊢
      obtain ⟨h, hh⟩ : ∃ h, Lb.hasP x.p.labs b.mt = h := ⟨_, rfl⟩
      have hcv : covB b x = (!decide (x.on = emp) && h) := by unfold covB runB; rw [hh]
      rw [hcv] at hnx
      have HCv := Lib.hid (show ∀ V, Below wr.heap.size wr V → Calls Try.prog 87 #[.agg #[.string b.nm, .slice b.ma b.mt.length b.mk', .int .i64 b.le], .agg #[.string (x.p).nm, .int .i64 (x.p).n0, .int .i64 (x.p).n1, .int .i64 (x.p).n2, .int .i64 (x.p).n3, .int .i64 (x.p).n4, .slice (x.p).la (x.p).labs.length (x.p).lk, .slice (x.p).sa (x.p).sels.length (x.p).sk, .slice (x.p).ta (x.p).trms.length (x.p).tk, .slice (x.p).ba (x.p).bers.length (x.p).bk, .slice (x.p).pa (x.p).prts.length (x.p).pk, .slice (x.p).aa (x.p).aprs.length (x.p).ak, .bool (x.p).wd, .slice (x.p).da (x.p).spds.length (x.p).dk, .int .i64 (x.p).sw, .int .i64 (x.p).rk, .string (x.p).ow, .bool (x.p).dm, .bool (x.p).pn, .bool (x.p).lc]] V fun e w' => e = .returned (.bool h) ∧ Below V.heap.size V w' from fun V hV => by
        have h9 := HC.out x (List.mem_of_getElem? hx) V (hbw.trans (hV.mono hbw.size))
        rw [hh] at h9
        exact h9)
      have hw9 : IntKind.i64.wrap ((cn : Int) + 1) = (cn : Int) + 1 := wrap_in (by omega) (by omega)
      have C : (x.on.toList.isEmpty = true ∧ ((bs.take (k + 1)).filter (covB b)).length = cn) ∨ (x.on.toList.isEmpty = false ∧ h = false ∧ ((bs.take (k + 1)).filter (covB b)).length = cn) ∨ (x.on.toList.isEmpty = false ∧ h = true ∧ ((bs.take (k + 1)).filter (covB b)).length = cn + 1) := by
        by_cases he : x.on = emp
        · exact .inl ⟨(emp_yes he).2.2, by rw [hnx, decide_eq_true he]; rfl⟩
        · cases h with
          | false => exact .inr (.inl ⟨(emp_no he).2.2, rfl, by rw [hnx, decide_eq_false he]; rfl⟩)
          | true => exact .inr (.inr ⟨(emp_no he).2.2, rfl, by rw [hnx, decide_eq_false he]; rfl⟩)
      clear hB hbw hc hx hcn hh hcv hnx
      rcases C with ⟨q1, e⟩ | ⟨q1, rfl, e⟩ | ⟨q1, rfl, e⟩
      all_goals
        have HNx := Lib.hid e
        clear e
        go_upto_region 5 with (fail)
        have hcH := held_cell
        refine region_rel (by kernel_rfl) (by kernel_rfl) ?_
        repeat
          ((with_reducible refine relStep (fun K hK => ?_))
           (have HK := Lib.hid hK)
           clear hK
           (apply relInl
            · intro r n hf
              have Hf := Lib.hid hf
              clear hf
              (first
                | ((first | ((with_reducible refine at_rel (ty := 50) ?_); refine rel_load rfl q (o + k * 21) rfl [.string (x.p).nm, .int .i64 (x.p).n0, .int .i64 (x.p).n1, .int .i64 (x.p).n2, .int .i64 (x.p).n3, .int .i64 (x.p).n4, .slice (x.p).la (x.p).labs.length (x.p).lk, .slice (x.p).sa (x.p).sels.length (x.p).sk, .slice (x.p).ta (x.p).trms.length (x.p).tk, .slice (x.p).ba (x.p).bers.length (x.p).bk, .slice (x.p).pa (x.p).prts.length (x.p).pk, .slice (x.p).aa (x.p).aprs.length (x.p).ak, .bool (x.p).wd, .slice (x.p).da (x.p).spds.length (x.p).dk, .int .i64 (x.p).sw, .int .i64 (x.p).rk, .string (x.p).ow, .bool (x.p).dm, .bool (x.p).pn, .bool (x.p).lc] _ Try.underlying50 rfl (by kernel_rfl) (rangeAt_mono HRq.out hq n.below) rfl) | ((with_reducible refine at_rel (ty := 53) ?_); refine rel_load rfl w.heap.size 0 rfl [.string b.nm, .slice b.ma b.mt.length b.mk', .int .i64 b.le] _ Try.underlying53 rfl (by kernel_rfl) (rangeAt_mono HRs.out hlx n.below) rfl)))
                | (unfold relAt
                   go_simp
                   (first | (refine relUpon_val ?_ (Below.refl _ _); exact rfl) | exact rfl | (refine relUpon_enter ?_; (go_at_call 87; (with_reducible refine (HCv.out _ n.below).mono ?_); rintro e w9 ⟨rfl, hb⟩; exact ⟨⟨_, rfl, rfl⟩, hb⟩)))))
            (simp only [Act.put, List.setIfInBounds_toArray, List.set_cons_zero, List.set_cons_succ])
            (with_reducible refine HK.out _ _ ?_)
            clear HK K))
        refine relNil ?_
        intro r9 n9 hx9
        clear hcH
        (try simp only [List.nil_append, List.cons_append, List.mem_cons, List.not_mem_nil, or_false, forall_eq_or_imp, forall_eq, false_implies, implies_true] at hx9)
        obtain ⟨w9, hb9⟩ := n9
        (try dsimp only)
        obtain ⟨hc9, hf9⟩ := bcell hb9
        have hz9 := hb9.size
        (try simp at hz9)
        have HB9 := Lib.hid (HBr.out.trans (hb9.mono HBr.out.size))
        clear hb9 hc9 hf9 hz9 c20
        go_wp2
        go_roundw
        case rel => exact ⟨k + 1, by omega, by go_num, by first | (rw [HNx.out]; done) | (rw [HNx.out]; rfl), HB9.out⟩
        case measure => simp [intOf]; omega
    · obtain rfl : k = n := by omega
      have hsp : spareB b bs = ((bs.take k).filter (covB b)).length - b.le := by
        unfold spareB
        rw [List.take_of_length_le (by rw [Hn.out]; exact Nat.le_refl _)]
      obtain ⟨cn, hcn⟩ : ∃ c, ((bs.take k).filter (covB b)).length = c := ⟨_, rfl⟩
      rw [hcn] at hsp hcl ⊢
      have c2 : wr.cell? ⟨w.heap.size, 2, none⟩ = some (.int .i64 b.le) := (HX.out.mono hB).cell 2
      have hlx := (HX.out.mono hB).lt
      have hw9 : IntKind.i64.wrap ((cn : Int) - b.le) = (cn : Int) - b.le := wrap_in (by omega) (by omega)
      have HS := Lib.hid hsp
      have HBx := Lib.hid hbw
      clear hB hbw hcn hsp
      go_wp2
      go_ret
      exact ⟨by first | rfl | (rw [HS.out]; first | done | rfl), HBx.out⟩
end Go.Proofs.Ytkmhicoimgpdlaa
