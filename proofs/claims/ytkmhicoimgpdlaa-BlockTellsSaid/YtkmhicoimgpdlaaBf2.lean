/-
  Budgets of the document: Spare.
-/
import Derived.Test.YtkmhicoimgpdlaaBf1
import Derived.Test.YtkmhicoimgpdlaaLab14
namespace Go.Proofs.Ytkmhicoimgpdlaa
open Go.RowKit
set_option linter.unusedVariables false
set_option linter.unusedSimpArgs false

set_option maxRecDepth 100000 in
set_option maxHeartbeats 8000000 in
theorem rspare_any (b : Bg) (a : Option Addr) (ka : Nat) (bs : List Bd) (w : World) (hB : BgIn w b) (hF : BndL w a bs) (hI : ∀ x ∈ bs, PodAt w x.p) (hl : bs.length ≤ 1000000) (hlm : b.mt.length ≤ 1000000) (hlb : ∀ x ∈ bs, x.p.labs.length ≤ 1000000) (hs : ∀ x ∈ bs, Lb.Sorted x.p.labs) (h0 : 0 ≤ b.le) (h1 : b.le ≤ 1000000) :
    Calls Try.prog 15 #[.agg (bgrow b).toArray, .slice a bs.length ka] w fun e w' => e = .returned (.int .i64 (spareB b bs)) ∧ Below w.heap.size w w' := by
  obtain ⟨n, hn⟩ : ∃ n, bs.length = n := ⟨_, rfl⟩
  have HC := Lib.hid (fun (x : Bd) (hx : x ∈ bs) V (hV : Below w.heap.size w V) => Lb.refhas_any x.p.la b.ma x.p.lk b.mk' x.p.labs b.mt V ((hI x hx).mono hV).labs (hB.mono hV).mt (hlb x hx) hlm (hs x hx))
  have Hn := Lib.hid hn
  have HF := Lib.hid hF
  rw [hn] at hl ⊢
  obtain ⟨W, hW⟩ : ∃ W, W = (w.alloc (.cells #[.string b.nm, .slice b.ma b.mt.length b.mk', .int .i64 b.le] 53)) := ⟨_, rfl⟩
  have HX := Lib.hid (show Box w.heap.size (bgrow b) W by rw [hW]; exact (Box.new w (bgrow b) 53))
  have HBw := Lib.hid (show Below w.heap.size w W by rw [hW]; exact (Below.refl _ _).alloc (Nat.le_refl _) _)
  show Calls Try.prog 15 #[.agg #[.string b.nm, .slice b.ma b.mt.length b.mk', .int .i64 b.le], .slice a n ka] w _
  clear hn hF hI hlb hB hlm hs
  go_enter Try.func15, Try.ntmps15
  go_upto_region 1 with (fail)
  rw [← hW]
  clear hW
  go_wp2
  go_loopw [5, 6] (fun vs vi wr => ∃ k : Nat, k ≤ n ∧ vi = .int .i64 k ∧ vs = .int .i64 (((bs.take k).filter (covB b)).length : Nat) ∧ Below W.heap.size W wr) (fun _ vi _ => n - (intOf vi).toNat)
  case atStart => exact ⟨0, Nat.zero_le _, rfl, rfl, Below.refl _ _⟩
  case round =>
    obtain ⟨k, hk, rfl, rfl, hB⟩ := hrel
    have HBr := Lib.hid hB
    have hbw := HBw.out.trans (hB.mono HBw.out.size)
    have hcl := List.length_filter_le (covB b) (bs.take k)
    have hcl2 := List.length_take_le k bs
    by_cases hlt : k < n
    · obtain ⟨x, hx⟩ := mem_at (l := bs) (k := k) (by rw [Hn.out]; exact hlt)
      obtain ⟨q, o, rfl, hq, hc⟩ := (HF.out.mono hbw) (by rw [Hn.out]; omega)
      have c6 : wr.cell? ⟨q, o + k * 21 + 6, none⟩ = some (.slice x.p.la x.p.labs.length x.p.lk) := hc k x hx 6 (by decide)
      have c20 : wr.cell? ⟨q, o + k * 21 + 20, none⟩ = some (.string x.on) := hc k x hx 20 (by decide)
      have x1 : wr.cell? ⟨w.heap.size, 1, none⟩ = some (.slice b.ma b.mt.length b.mk') := (HX.out.mono hB).cell 1
      have hlx := (HX.out.mono hB).lt
      have hnx : ((bs.take (k + 1)).filter (covB b)).length = ((bs.take k).filter (covB b)).length + if covB b x = true then 1 else 0 := by
        rw [filt_next hx, List.length_append]
        split <;> rfl
      obtain ⟨cn, hcn⟩ : ∃ c, ((bs.take k).filter (covB b)).length = c := ⟨_, rfl⟩
      rw [hcn] at hnx hcl ⊢
      obtain ⟨h, hh⟩ : ∃ h, Lb.hasP x.p.labs b.mt = h := ⟨_, rfl⟩
      have hcv : covB b x = (!decide (x.on = emp) && h) := by unfold covB runB; rw [hh]
      rw [hcv] at hnx
      have HCv := Lib.hid (show ∀ V, Below wr.heap.size wr V → Calls Try.prog 37 #[.slice x.p.la x.p.labs.length x.p.lk, .slice b.ma b.mt.length b.mk'] V fun e w' => e = .returned (.bool h) ∧ Below V.heap.size V w' from fun V hV => by
        have h9 := HC.out x (List.mem_of_getElem? hx) V (hbw.trans (hV.mono hbw.size))
        rw [hh] at h9
        exact h9)
      have hw9 : IntKind.i64.wrap ((cn : Int) + 1) = (cn : Int) + 1 := wrap_in (by omega) (by omega)
      have C : (x.on.toList.isEmpty = true ∧ ((bs.take (k + 1)).filter (covB b)).length = cn) ∨ (x.on.toList.isEmpty = false ∧ h = false ∧ ((bs.take (k + 1)).filter (covB b)).length = cn) ∨ (x.on.toList.isEmpty = false ∧ h = true ∧ ((bs.take (k + 1)).filter (covB b)).length = cn + 1) := by
        by_cases he : x.on = emp
        · exact .inl ⟨(emp_yes he).2.2, by rw [hnx, decide_eq_true he]; rfl⟩
        · cases h with
          | false => exact .inr (.inl ⟨(emp_no he).2.2, rfl, by rw [hnx, decide_eq_false he]; rfl⟩)
          | true => exact .inr (.inr ⟨(emp_no he).2.2, rfl, by rw [hnx, decide_eq_false he]; rfl⟩)
      clear hB hbw hc hx hcn hh hcv hnx
      rcases C with ⟨q1, e⟩ | ⟨q1, rfl, e⟩ | ⟨q1, rfl, e⟩
      all_goals
        have HNx := Lib.hid e
        clear e
        go_upto_region 5 with (fail)
        have hcH := held_cell
        refine region_rel (by kernel_rfl) (by kernel_rfl) ?_
        repeat
          ((with_reducible refine relStep (fun K hK => ?_))
           (have HK := Lib.hid hK)
           clear hK
           (apply relInl
            · intro r n hf
              have Hf := Lib.hid hf
              clear hf
              (first
                | (fail)
                | (unfold relAt
                   go_simp
                   (first | (refine relUpon_val ?_ (Below.refl _ _); exact rfl) | exact rfl | (refine relUpon_enter ?_; (go_at_call 37; (with_reducible refine (HCv.out _ n.below).mono ?_); rintro e w9 ⟨rfl, hb⟩; exact ⟨⟨_, rfl, rfl⟩, hb⟩)))))
            (simp only [Act.put, List.setIfInBounds_toArray, List.set_cons_zero, List.set_cons_succ])
            (with_reducible refine HK.out _ _ ?_)
            clear HK K))
        refine relNil ?_
        intro r9 n9 hx9
        clear hcH
        (try simp only [List.nil_append, List.cons_append, List.mem_cons, List.not_mem_nil, or_false, forall_eq_or_imp, forall_eq, false_implies, implies_true] at hx9)
        obtain ⟨w9, hb9⟩ := n9
        (try dsimp only)
        obtain ⟨hc9, hf9⟩ := bcell hb9
        have hz9 := hb9.size
        (try simp at hz9)
        have HB9 := Lib.hid (HBr.out.trans (hb9.mono HBr.out.size))
        clear hb9 hc9 hf9 hz9 c20 c6 x1
        go_wp2
        go_roundw
        case rel => exact ⟨k + 1, by omega, by go_num, by first | (rw [HNx.out]; done) | (rw [HNx.out]; rfl), HB9.out⟩
        case measure => simp [intOf]; omega
    · obtain rfl : k = n := by omega
      have hsp : spareB b bs = ((bs.take k).filter (covB b)).length - b.le := by
        unfold spareB
        rw [List.take_of_length_le (by rw [Hn.out]; exact Nat.le_refl _)]
      obtain ⟨cn, hcn⟩ : ∃ c, ((bs.take k).filter (covB b)).length = c := ⟨_, rfl⟩
      rw [hcn] at hsp hcl ⊢
      have c2 : wr.cell? ⟨w.heap.size, 2, none⟩ = some (.int .i64 b.le) := (HX.out.mono hB).cell 2
      have hlx := (HX.out.mono hB).lt
      have hw9 : IntKind.i64.wrap ((cn : Int) - b.le) = (cn : Int) - b.le := wrap_in (by omega) (by omega)
      have HS := Lib.hid hsp
      have HBx := Lib.hid hbw
      clear hB hbw hcn hsp
      go_wp2
      go_ret
      exact ⟨by first | rfl | (rw [HS.out]; first | done | rfl), HBx.out⟩
end Go.Proofs.Ytkmhicoimgpdlaa
