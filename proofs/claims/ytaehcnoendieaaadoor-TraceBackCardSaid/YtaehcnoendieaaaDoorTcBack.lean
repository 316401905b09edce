/-
  TraceBack: what is shown of events is read as those that are right.
-/
import Derived.Test.YtaehcnoendieaaaDoorTcOp
import Derived.Test.YtaehcnoendieaaaDoorTcM
namespace Go.Proofs.YtaehcnoendieaaaDoor
open Go.ChangeShapes Go.WideShapes Go.ChangeAt Go.RowKit
set_option linter.unusedVariables false
set_option linter.unusedSimpArgs false
namespace traceBack

theorem parse_show (l : List Ev) : parseA (lsB (showL l)) = (l.filter rightE, 0, 0) := by
  unfold parseA
  rw [dl_ls, run_show l _ [] 1 (by rw [ls_size]; exact Nat.le_refl _), List.nil_append]
set_option maxRecDepth 100000 in
set_option maxHeartbeats 8000000 in
theorem walk (l : List Ev) (a : Option Addr) (c : Nat) (w : World) (hF : EvL w a l) (hl : l.length ≤ maxLen) (hc : l.length ≤ c) (hT : Tab10 w) (hM : MaxAt w) :
    Calls Tryd.prog 5 #[.slice a l.length c] w fun e w' => e = .returned (.bool true) ∧ Below w.heap.size w w' := by
  have HK := Lib.hid (fun (V : World) (hV : Below w.heap.size w V) => known_any V (hT.mono hV) (hM.mono hV))
  have HLt := Lib.hid (light_any l a c w hF hl)
  cases hlt : lightB l
  · rw [hlt] at HLt
    clear hT hM hlt
    go_enter Tryd.func5, Tryd.ntmps5
    go_wp2_with (first
      | (go_at_call 12; (with_reducible refine HLt.out.mono ?_); rintro rr w1 ⟨rfl, hb1⟩)
      | (go_at_call 7; (with_reducible refine (HK.out _ hb1).mono ?_); rintro rr w5 ⟨rfl, hb5⟩))
    go_ret
    exact ⟨rfl, hb1.trans (hb5.mono hb1.size)⟩
  · obtain ⟨h60, hsh⟩ := light_short hlt
    rw [hlt] at HLt
    have HTM := Lib.hid (And.intro hT hM)
    have HF := Lib.hid hF
    have hz1 := show_len l
    obtain ⟨n, hn⟩ : ∃ n, l.length = n := ⟨_, rfl⟩
    have HN := Lib.hid hn
    have HE := Lib.hid (show l.take n = l by rw [← hn, List.take_length])
    have HSz := Lib.hid (show (lsB (showL l)).size ≤ 100000 by rw [ls_size]; omega)
    obtain ⟨i0, hi, hz0, hz1, hz2⟩ := info_parts Tryd.info39
    have Hi := Lib.hid hi
    have Hz0 := Lib.hid hz0
    have Hz1 := Lib.hid hz1
    have Hz2 := Lib.hid hz2
    clear hi hz0 hz1 hz2
    rw [hn] at h60 hl HLt hc ⊢
    clear hT hM hlt hsh hF hn hz1 hl
    go_enter Tryd.func5, Tryd.ntmps5
    go_wp2_with (go_at_call 12; (with_reducible refine HLt.out.mono ?_); rintro rr w1 ⟨rfl, hb1⟩)
    have HB1 := Lib.hid hb1
    clear HLt hb1
    go_loopw [3, 4] (fun v vi wr => ∃ k : Nat, k ≤ n ∧ vi = .int .i64 k ∧ wr.ownsRow w.heap.size 39 4 v ((l.take k).filter rightE).length (((l.take k).filter rightE).flatMap evrow) ∧ Below w.heap.size w wr) (fun _ vi _ => n - (intOf vi).toNat)
    case atStart => exact ⟨0, by omega, rfl, World.ownsRow_nil _ _ _ _, HB1.out⟩
    case round =>
      clear HB1
      obtain ⟨k, hk, rfl, hown, hB⟩ := hrel
      have Hown := Lib.hid hown
      have HB := Lib.hid hB
      have hbz := hB.size
      clear hown
      by_cases hkn : k < n
      · obtain ⟨e, he⟩ := mem_at (l := l) (k := k) (by rw [HN.out]; exact hkn)
        have hFr := HF.out.mono hB
        obtain ⟨b, o, rfl, hb, hcc⟩ := hFr (by rw [HN.out]; omega)
        obtain ⟨c0, c1, c2, c3⟩ := ev_cells (hcc k e he)
        have hone : (l.drop k).take 1 = [e] := by
          obtain ⟨hk2, hk3⟩ := List.getElem?_eq_some_iff.1 he
          rw [List.drop_eq_getElem_cons hk2, hk3]
          rfl
        have hF1 := (hFr.dropped k).taken 1
        rw [hone] at hF1
        have HG1 := Lib.hid (show ∀ kk : Nat, Calls Tryd.prog 13 #[.slice (some ⟨b, o + k * 4, none⟩) 1 kk] wr (Gives wr (OwnL evrow 4 wr.heap.size 37 [e])) from fun kk => given_any [e] (some ⟨b, o + k * 4, none⟩) kk wr hF1 (by show 1 ≤ _; decide))
        have HR1 := Lib.hid (fun w : World => right_any e w)
        have hw1 : IntKind.i64.wrap ((k : Int) + 1) = (k : Int) + 1 := wrap_in (by omega) (by omega)
        have hkc : k < c := by omega
        clear hcc hFr hone hF1
        cases hr : rightE e
        · rw [hr] at HR1
          have Hno := Lib.hid (filt_no he hr)
          obtain ⟨now, what, name, en⟩ := e
          dsimp only at c0 c1 c2 c3 HR1
          clear he hr
          go_wp2_with (first
            | (go_at_call 13; (with_reducible refine (HG1.out _).mono ?_); rintro rr w2 ⟨⟨v2, rfl, hv⟩, hb2⟩; obtain ⟨a2, k2, rfl, -, hx⟩ := OwnL.isL ev_len (by decide) hv; obtain ⟨b2, o2, rfl, hbb2, hcc2⟩ := hx Nat.one_pos; obtain ⟨d0, d1, d2, d3⟩ := ev_cells (hcc2 0 _ rfl); have d0 : w2.cell? ⟨b2, o2, none⟩ = some (.int .i64 now) := d0; have d1 : w2.cell? ⟨b2, o2 + 1, none⟩ = some (.string what) := d1; have d2 : w2.cell? ⟨b2, o2 + 2, none⟩ = some (.string name) := d2; have d3 : w2.cell? ⟨b2, o2 + 3, none⟩ = some (.int .i64 en) := d3; clear hv hx hcc2)
            | (go_at_call 14; (with_reducible refine (HR1.out _).mono ?_); rintro rr w3 ⟨rfl, hb3⟩))
          go_roundw
          case rel => exact ⟨k + 1, by omega, by go_num, by rw [Hno.out]; exact own_kept (own_kept Hown.out hb2) hb3, hB.trans ((hb2.trans (hb3.mono hb2.size)).mono hbz)⟩
          case measure => simp [intOf]; omega
        · rw [hr] at HR1
          have Hye := Lib.hid (filt_yes he hr)
          have hfl := filt_len rightE l k
          have hc3 : ((l.take k).filter rightE).length + 1 ≤ maxLen := by unfold maxLen; omega
          have hc4 : (((l.take k).filter rightE).length + 1) * 48 ≤ 140737488355328 := by omega
          have Hrow := Lib.hid (show ((l.take k).filter rightE).flatMap evrow ++ evrow e = ((l.take (k + 1)).filter rightE).flatMap evrow by rw [Hye.out]; simp)
          have Hlen := Lib.hid (show ((l.take k).filter rightE).length + 1 = ((l.take (k + 1)).filter rightE).length by rw [Hye.out]; simp)
          have hew := ev_one e
          obtain ⟨now, what, name, en⟩ := e
          dsimp only at c0 c1 c2 c3 HR1
          clear he hr hfl
          go_wp2_with (first
            | (go_at_call 13; (with_reducible refine (HG1.out _).mono ?_); rintro rr w2 ⟨⟨v2, rfl, hv⟩, hb2⟩; obtain ⟨a2, k2, rfl, -, hx⟩ := OwnL.isL ev_len (by decide) hv; obtain ⟨b2, o2, rfl, hbb2, hcc2⟩ := hx Nat.one_pos; obtain ⟨d0, d1, d2, d3⟩ := ev_cells (hcc2 0 _ rfl); have d0 : w2.cell? ⟨b2, o2, none⟩ = some (.int .i64 now) := d0; have d1 : w2.cell? ⟨b2, o2 + 1, none⟩ = some (.string what) := d1; have d2 : w2.cell? ⟨b2, o2 + 2, none⟩ = some (.string name) := d2; have d3 : w2.cell? ⟨b2, o2 + 3, none⟩ = some (.int .i64 en) := d3; clear hv hx hcc2)
            | (go_at_call 14; (with_reducible refine (HR1.out _).mono ?_); rintro rr w3 ⟨rfl, hb3⟩; have hb23 := hb2.trans (hb3.mono hb2.size); obtain ⟨hc9, hf9⟩ := bcell hb23; have hz9 := hb23.size; have HOx := Lib.hid (own_kept (own_kept Hown.out hb2) hb3); have HBx := Lib.hid (hB.trans (hb23.mono hbz)); have hbx := HBx.out.size)
            | (at_builtin; refine wpList_append_own _ rfl (.tmp 27) (.tmp 32) 27 rfl w.heap.size 39 i0 _ 4 48 Tryd.underlying27 Hi.out Hz0.out Hz1.out Hz2.out rfl (by decide) _ ((l.take k).filter rightE).length (((l.take k).filter rightE).flatMap evrow) rfl (HOx.out.alloc _) ⟨w3.heap.size, 0, none⟩ 1 1 (evrow ⟨now, what, name, en⟩) rfl rfl (news_at _ _ _) hew hc3 hc4 (le_alloc hbx _) ?_; intro v1 w1 hown1 hgrow1 _; rw [Hrow.out, Hlen.out] at hown1; have hB1 := own_below (HOx.out.alloc _) (HBx.out.alloc hbx _) (le_alloc hbx _) hgrow1; have HO1 := Lib.hid hown1; clear hown1 hgrow1))
          go_roundw
          case rel => exact ⟨k + 1, by omega, by go_num, HO1.out, hB1⟩
          case measure => simp [intOf]; omega
      · obtain rfl : k = n := by omega
        have hown := Hown.out
        rw [HE.out] at hown
        obtain ⟨ar, kr, rfl, -, hxr⟩ := OwnL.isL ev_len (by decide) (show OwnL evrow 4 w.heap.size 39 (l.filter rightE) _ wr from hown)
        have HXr := Lib.hid hxr
        have HFr := Lib.hid (HF.out.mono hB)
        have HT1 := Lib.hid (fun (V : World) (hV : Below wr.heap.size wr V) => (⟨HTM.out.1.mono (hB.trans (hV.mono hbz)), HTM.out.2.mono (hB.trans (hV.mono hbz))⟩ : Tab10 V ∧ MaxAt V))
        have HKr := Lib.hid (fun (V : World) (hV : Below wr.heap.size wr V) => HK.out V (hB.trans (hV.mono hbz)))
        have HGa := Lib.hid (given_any l a c wr HFr.out (by rw [HN.out]; omega))
        have Hfl := Lib.hid (show (l.filter rightE).length ≤ 60 from Nat.le_trans (List.length_filter_le _ _) (by rw [HN.out]; exact h60))
        rw [HN.out] at HGa
        clear hown hxr Hown
        go_wp2_with (first
          | (go_at_call 13; (with_reducible refine HGa.out.mono ?_); rintro rr v1 ⟨⟨y1, rfl, hv⟩, f1⟩; obtain ⟨a1, k1, rfl, -, hx⟩ := OwnL.isL ev_len (by decide) hv; rw [HN.out]; have HX1 := Lib.hid hx; clear hv hx)
          | (go_at_call 16; have hs9 := show_any l a1 k1 v1 HX1.out (by rw [HN.out]; omega) (HT1.out v1 f1).1; rw [HN.out] at hs9; (with_reducible refine hs9.mono ?_); rintro rr v2 ⟨rfl, f2⟩; have F2 := f1.trans (f2.mono f1.size); clear f2 hs9)
          | (go_at_call 8; have hp9 := parseA_any (lsB (showL l)) HSz.out v2 (HT1.out v2 F2).1 (HT1.out v2 F2).2; rw [parse_show] at hp9; (with_reducible refine hp9.mono ?_); rintro rr v3 ⟨⟨y3, rfl, hv⟩, f3⟩; obtain ⟨a3, k3, rfl, -, hx⟩ := OwnL.isL ev_len (by decide) hv; have HX3 := Lib.hid hx; have F3 := F2.trans (f3.mono F2.size); clear hv hx hp9 f3; dsimp only [errB])
          | (go_at_call 11; (with_reducible refine (taken_any _ _ _ _ HX3.out (by have := Hfl.out; omega)).mono ?_); rintro rr v4 ⟨⟨y4, rfl, hv⟩, f4⟩; obtain ⟨a4, k4, rfl, -, hx⟩ := OwnL.isL ev_len (by decide) hv; have HX4 := Lib.hid hx; have F4 := F3.trans (f4.mono F3.size); have HY4 := Lib.hid (HXr.out.mono F4); clear hv hx f4)
          | (go_at_call 10; (with_reducible refine (same_any _ _ _ _ _ (l.filter rightE) _ HX4.out HY4.out rfl (by have := Hfl.out; omega)).mono ?_); rintro rr v5 ⟨rfl, f5⟩; have F5 := F4.trans (f5.mono F4.size); clear f5)
          | (go_at_call 7; (with_reducible refine (HKr.out _ F5).mono ?_); rintro rr v6 ⟨rfl, f6⟩; have F6 := F5.trans (f6.mono F5.size); clear f6))
        go_ret
        exact ⟨rfl, hB.trans (F6.mono hbz)⟩

set_option maxRecDepth 100000 in
theorem lifted (os : Os) (started : os.Started) (H : Type) (enc : TypeId × Value → H) :
    ReturnsInHanded {} Tryd.checked os 5 .any (fun w args => (Rows.traceBackSpec.pre enc Tryd.prog Tryd.f5 Rows.traceBackRow.domain false w args ∧ laidMetH Tryd.prog Rows.traceBackRow.laid w) ∧ sizedMet enc Tryd.prog Tryd.f5 (OpenSpec.ofChange Rows.traceBackSpec) false w args)
      (Rows.traceBackSpec.post enc Tryd.prog Tryd.f5 false true false false) := by
  refine handed_laid (C := Tryd.checked) (X := fun w _ => laidMetH Tryd.prog Rows.traceBackRow.laid w) (fun _ _ _ hh h => h.of_heap hh) Tryd.own started (by kernel_rfl) Tryd.func5
    (ChangeSpec.witness_at (enc := enc) (C := Tryd.checked) (os := os) (X := fun w _ => laidMetH Tryd.prog Rows.traceBackRow.laid w) false (laidWorld os) #[.slice none 0 0] 8 rfl (by kernel_rfl) (by kernel_rfl) (by kernel_rfl) (by kernel_rfl) (by kernel_rfl) (laidWorld_met os _)) ?_
  intro W base args ds gs before hsh hL hval hW
  have hW' := hW
  obtain ⟨p, q, hA, hV, rfl, hfz, hnd⟩ := hW
  rw [Tryd.params5] at hA hval
  obtain ⟨v0, d0, rfl, rfl, h0⟩ := trodAll_one hA
  obtain ⟨a, l, k, rfl, -, hF, hm, hc⟩ := open_evs (hval 0 27 v0 rfl rfl) h0
  refine (walk l a k W hF hm hc (tab_of hL) (max_of hsh)).mono fun e W' ⟨he, hb⟩ => ?_
  exact ⟨_, he, law_post Tryd.laidOut hW' rfl (by kernel_rfl) (by kernel_rfl) Tryd.underlying4 rfl rfl rfl hb⟩

theorem over : Rows.TraceBackSaid :=
  OpenClaim.holds_of_wide 5 Tryd.f5 rfl rfl rfl rfl rfl rfl rfl ⟨rfl, rfl, rfl, rfl, rfl⟩ rfl rfl rfl rfl rfl (by kernel_rfl) Tryd.func5 (by kernel_rfl)
    (of_decide_eq_true (by kernel_rfl)) (by unfold Func.isWrapper; first | (rw [if_pos (by decide +kernel)]; kernel_rfl) | (rw [if_neg (by decide +kernel)]; exact ⟨rfl, rfl⟩))
    (fun os started H enc _ => lifted os started H enc)

/-- The statement: the card. -/
theorem proved : Rows.TraceBackCardSaid :=
  Claim7.holds_tied_plain_at .later [] [.data, .data, .data, .data, .pinned] true Rows.traceBackCard.stood.harness Rows.traceBackCard.stood.looks
    over (fun _ h => by cases h) (by kernel_rfl) (fun _ h => by cases h) traceBack_row_tie rfl ⟨rfl, rfl⟩ (by kernel_rfl) rfl
    (fun f fn hf hfn => by
      obtain rfl : f = 5 := Option.some.inj ((show Tryd.prog.funcNamed Rows.traceBackRow.func = some 5 by kernel_rfl).symm.trans hf) |>.symm
      obtain rfl : fn = Tryd.f5 := (Option.some.inj (Tryd.func5.symm.trans hfn)).symm
      exact ⟨by kernel_rfl, fun j t ht => by
        rw [Tryd.params5] at ht
        have h3 : t = 27 := by
          rcases j with _ | j
          · simpa using ht.symm
          · simp at ht
        subst h3
        exact (show Tryd.prog.wantsStandIn 27 = false by kernel_rfl)⟩)
    (by kernel_rfl)
end traceBack
end Go.Proofs.YtaehcnoendieaaaDoor
