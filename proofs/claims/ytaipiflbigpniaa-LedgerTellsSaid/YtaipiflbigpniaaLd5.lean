/-
  The ledger: Add.
-/
import Derived.Test.YtaipiflbigpniaaLd4
import Derived.Laws.OwnMore
namespace Go.Proofs.Ytaipiflbigpniaa
open Go.RowKit
set_option linter.unusedVariables false
set_option linter.unusedSimpArgs false

theorem ld_law_str : Go.Maps.Keyed Try.prog 9 := Go.Maps.string_keyed Try.underlying9
theorem Only.fresh {S : List Nat} {a w w' : World} {m : Nat} (h : Only S a w) (ho : Only [m] w w') (hm : a.heap.size ≤ m) : Only S a w' :=
  ⟨ho.os.trans h.os, ho.tape.trans h.tape, ho.output.trans h.output, Nat.le_trans h.size ho.size, fun k hk hs => (ho.block k (Nat.lt_of_lt_of_le hk h.size) (by simp; omega)).trans (h.block k hk hs)⟩
theorem zero_int (w : World) : (zeroValue 3).run Try.prog w = .ok (.int .i64 0) w := by kernel_rfl
theorem add_none (p : Option Addr) (c : Option Addr) (n k : Nat) (w : World) (hM : ∀ V, Below w.heap.size w V → Calls Try.prog 27 #[.pointer p] V fun e w' => e = .returned (.bool false) ∧ w' = V) :
    Calls Try.prog 12 #[.pointer p, .slice c n k] w fun e w' => e = .returned (.tuple #[]) ∧ Below w.heap.size w w' := by
  have HM := Lib.hid hM
  clear hM
  go_enter Try.func12, Try.ntmps12
  go_wp2_with (go_at_call 27; (with_reducible refine (HM.out _ (by (repeat' (first | with_reducible exact Below.refl _ _ | with_reducible assumption | with_reducible refine Below.drew ?_ | with_reducible refine below_drewN' ?_ _ | with_reducible refine Below.alloc ?_ ?_ _ | with_reducible refine Below.setCell ?_ ?_ _ | with_reducible refine below_step (by assumption) ?_ ?_ | omega | (simp; done) | (simp; omega))))).mono ?_); rintro e w1 ⟨rfl, rfl⟩)
  refine bodyPost_ret (results_none rfl _ _ _) rfl ?_
  exact ⟨rfl, Below.refl _ _⟩

set_option maxRecDepth 100000 in
set_option maxHeartbeats 8000000 in
theorem add_any (base b : Nat) (A : List Ac) (v : Value) (tk : Int) (c : Option Addr) (kc : Nat) (L : List Ins) (w : World) (h : LT w base b A v tk) (hI : InsL w c L) (hc : 0 < L.length → ∀ q o, c = some ⟨q, o, none⟩ → q ≠ b)
    (hL : L.length ≤ 1000) (hA : A.length ≤ 1000) (ht0 : 0 ≤ tk) (ht1 : tk ≤ 1000000) (hg : ∀ x ∈ L, x.gp.size ≤ maxLen) (hn : ∀ x ∈ A, x.nm.size ≤ maxLen ∧ 0 ≤ x.su ∧ x.su ≤ 1000000000 ∧ 0 ≤ x.pk ∧ x.pk ≤ 1000000000) :
    Calls Try.prog 12 #[.pointer (some ⟨b, 0, none⟩), .slice c L.length kc] w fun e w' => e = .returned (.tuple #[]) ∧ LT w' base b (A.map (addA L)) v (tk + 1) ∧ Only (b :: v.ownBlock.toList) w w' := by
  have Hh := Lib.hid h
  have c0 := h.row.cell 0
  have c1 := h.row.cell 1
  have c2 := h.row.cell 2
  have f2 := h.row.frozen 2
  dsimp only [List.getElem?_cons_zero, List.getElem?_cons_succ] at c0 c1 c2
  have hbl := h.row.lt
  obtain ⟨n, hn1⟩ : ∃ n, L.length = n := ⟨_, rfl⟩
  have Hn := Lib.hid hn1
  have Hg := Lib.hid hg
  have HA := Lib.hid hn
  have HI := Lib.hid hI
  have Hc := Lib.hid hc
  rw [hn1] at hL ⊢
  have hwt : IntKind.i64.wrap (tk + 1) = tk + 1 := lwrap_in (by omega) (by omega)
  have hmm := @run_makeMap Try.prog
  clear h hI hc hg hn hn1
  go_enter Try.func12, Try.ntmps12
  go_wp2_with (go_at_call 27; (with_reducible refine (made_yes b _ c0).mono ?_); rintro e w1 ⟨rfl, rfl⟩)
  obtain ⟨m, hm⟩ : ∃ m, m = w1.heap.size := ⟨_, rfl⟩
  obtain ⟨W, hW⟩ : ∃ W, W = (w1.setCell ⟨b, 2, none⟩ (.int .i64 (tk + 1))).alloc (.map #[] 0) := ⟨_, rfl⟩
  have hmb : m ≠ b := by omega
  have HOW := Lib.hid (show Only [b] w1 W by rw [hW]; exact ((Only.refl _ _).setCell (.inl (by simp)) _).alloc _)
  have HMW := Lib.hid (show MapIs Try.prog 9 W m 0 (cntF (L.take 0)) by
    rw [hW, hm]
    have h9 := MapIs.made (w1.setCell ⟨b, 2, none⟩ (.int .i64 (tk + 1))) Try.prog 9
    have e9 : (w1.setCell ⟨b, 2, none⟩ (.int .i64 (tk + 1))).heap.size = w1.heap.size := by simp [World.setCell]
    rw [e9] at h9
    exact h9.eq fun s => rfl)
  have HTW := Lib.hid (show LT W base b A v (tk + 1) by
    rw [hW]
    refine ⟨(Hh.out.row.set 2 _).alloc _, ?_, Hh.out.ne, Hh.out.hb⟩
    exact own_kept (own_same Hh.out.own fun q hq => Below.heap_setCell _ _ _ _ (fun e => Hh.out.ne (by simp only at e; rw [← e]; exact hq))) ((Below.refl _ _).alloc (Nat.le_refl _) _))
  have HIW := Lib.hid (show InsL W c L from fun h0 => by
    obtain ⟨q, o, e, hq, hr⟩ := HI.out h0
    refine ⟨q, o, e, Nat.lt_of_lt_of_le hq HOW.out.size, fun i x hx r hr2 => ?_⟩
    rw [World.cell?_of_block (HOW.out.block q hq (by simp; exact Hc.out h0 q o e))]
    exact hr i x hx r hr2)
  have hmW : w1.heap.size ≤ m := by omega
  have hvm : ∀ q, v.ownBlock = some q → q < m := fun q hq => by rw [hm]; exact (own_lt Hh.out.own hq).2
  have Hvm := Lib.hid hvm
  have hbm : b < m := by omega
  have HIm := Lib.hid (show ∀ q o, c = some ⟨q, o, none⟩ → 0 < L.length → q < m from fun q o e h0 => by
    obtain ⟨q2, o2, e2, hq, _⟩ := HI.out h0
    rw [e] at e2
    injection e2 with e2
    injection e2 with e2
    omega)
  rw [← hW, ← hm]
  clear hW hm hvm c0 c1 c2 f2 Hh HI Hc hwt hmm hbl
  go_loopw [23] (fun i wr => ∃ k : Nat, k ≤ n ∧ i = .int .i64 k ∧ MapIs Try.prog 9 wr m k (cntF (L.take k)) ∧ Only [m] W wr) (fun i _ => n - (intOf i).toNat)
  case atStart => exact ⟨0, Nat.zero_le _, rfl, HMW.out, Only.refl _ _⟩
  case round =>
    obtain ⟨k, hk, rfl, hM, hO⟩ := hrel
    have HM := Lib.hid hM
    have HO := Lib.hid hO
    clear hM hO
    by_cases hlt : k < n
    · obtain ⟨x, hx⟩ := mem_at (l := L) (k := k) (by rw [Hn.out]; exact hlt)
      obtain ⟨q, off, e1, hq, hr⟩ := HIW.out (by rw [Hn.out]; omega)
      have hqm := HIm.out q off e1 (by rw [Hn.out]; omega)
      subst e1
      have hcw : ∀ o, wr.cell? ⟨q, o, none⟩ = W.cell? ⟨q, o, none⟩ := fun o => World.cell?_of_block (HO.out.block q hq (by simp; omega))
      obtain ⟨d0, d1, d2, d3, d4⟩ := irow_cells (hr k x hx)
      rw [← hcw] at d0 d1 d2 d3 d4
      have hgx := Hg.out x (List.mem_of_getElem? hx)
      have Hx := Lib.hid hx
      have hmr := HM.out.lt
      clear hr hx hcw
      by_cases h3 : x.st = 3
      · have k3 : (x.st != 3) = false := by rw [h3]; rfl
        go_wp2
        go_roundw
        case rel => exact ⟨k + 1, by omega, by go_num, ((HM.out.below ((Below.refl _ _).alloc (Nat.le_refl _) _)).mono (Nat.le_succ _)).eq (cnt_no Hx.out h3), HO.out.alloc _⟩
        case measure => simp [intOf]; omega
      · have k3 : (x.st != 3) = true := by simpa using h3
        have hw9 : IntKind.i64.wrap ((cntI (L.take k) x.gp : Int) + 1) = (cntI (L.take k) x.gp : Int) + 1 := by
          have := cnt_le (L.take k) x.gp
          have h8 : (L.take k).length ≤ k := List.length_take_le _ _
          exact lwrap_in (by omega) (by omega)
        go_wp2_with (first
          | (at_lookup; refine at_look rfl _ _ 63 9 3 rfl ld_law_str Try.underlying63 Try.underlying9 _ (zero_int _) (HM.out.below ((Below.refl _ _).alloc (Nat.le_refl _) _)) rfl _ rfl hgx ?_; rw [cnt_get])
          | (at_mapUpdate; refine at_put rfl _ _ _ 63 9 3 rfl ld_law_str Try.underlying63 Try.underlying9 (HM.out.below ((Below.refl _ _).alloc (Nat.le_refl _) _)) (by unfold maxLen; omega) rfl _ rfl hgx (.int .i64 (cntI (L.take k) x.gp + 1 : Nat)) (by rfl) ?_; intro w7 hm7 hg7; have HM7 := Lib.hid hm7; have HG7 := Lib.hid hg7; clear hm7 hg7))
        go_roundw
        case rel => exact ⟨k + 1, by omega, by go_num, HM7.out.eq (cnt_yes Hx.out h3), (HO.out.alloc _).grown HG7.out (fun z hz => .inl (by obtain rfl := Option.some.inj hz; simp))⟩
        case measure => simp [intOf]; omega
    · obtain rfl : k = n := by omega
      have HM1 := Lib.hid (show MapIs Try.prog 9 wr m k (cntF L) from HM.out.eq fun s => by rw [List.take_of_length_le (Nat.le_of_eq Hn.out)])
      have HT1 := Lib.hid (HTW.out.only HO.out (by simp; omega) (fun q hq => by have := Hvm.out q hq; simp; omega))
      obtain ⟨a, ka, ev, _⟩ := HTW.out.rows
      obtain ⟨nA, hnA⟩ : ∃ nA, A.length = nA := ⟨_, rfl⟩
      rw [hnA] at ev hA
      have HnA := Lib.hid hnA
      have c1 : wr.cell? ⟨b, 1, none⟩ = some v := HT1.out.row.cell 1
      obtain ⟨W2, hW2⟩ : ∃ W2, W2 = wr := ⟨_, rfl⟩
      subst ev
      clear HMW HIW HIm Hg HM hnA
      go_wp2
      rw [← hW2] at HM1 HT1 HO c1 ⊢
      clear hW2 c1
      go_loopw [41] (fun i wr => ∃ j : Nat, j ≤ nA ∧ i = .int .i64 j ∧ LT wr base b (part L A j) (.slice a nA ka) (tk + 1) ∧ MapIs Try.prog 9 wr m k (cntF L) ∧ Only (Value.slice a nA ka).ownBlock.toList W2 wr) (fun i _ => nA - (intOf i).toNat)
      case atStart => exact ⟨0, Nat.zero_le _, rfl, by (have e : part L A 0 = A := by simp [part]); rw [e]; exact HT1.out, HM1.out, Only.refl _ _⟩
      case round =>
        obtain ⟨j, hj, rfl, hT, hM, hO2⟩ := hrel
        have HT := Lib.hid hT
        have HM := Lib.hid hM
        have HO2 := Lib.hid hO2
        have c0 := hT.row.cell 0
        have c1 := hT.row.cell 1
        dsimp only [List.getElem?_cons_zero, List.getElem?_cons_succ] at c0 c1
        obtain ⟨a2, ka2, e2, hrows⟩ := hT.rows
        have Hrows := Lib.hid hrows
        clear hT hM hO2 hrows
        by_cases hlt2 : j < nA
        · obtain ⟨x, hx⟩ := mem_at (l := A) (k := j) (by rw [HnA.out]; exact hlt2)
          have hpa := part_at (L := L) hx
          obtain ⟨g, ea, hg0, hg1, hcs⟩ := Hrows.out (by rw [part_len, HnA.out]; omega)
          injection e2 with e3 e4 e5
          rw [ea] at e3
          subst e3
          obtain ⟨d0, d1, d2, d3⟩ := hcs j x hpa
          have hown : wr.ownsRow base 60 4 (.slice (some ⟨g, 0, none⟩) nA ka) nA ((part L A j).flatMap acc) := by
            have h9 := HT.out.own
            rw [part_len, HnA.out] at h9
            exact h9
          have f2 := hown.frozenAt (j * 4 + 2)
          have f3 := hown.frozenAt (j * 4 + 3)
          have Hown := Lib.hid hown
          obtain ⟨hnm, s0, s1, q0, q1⟩ := HA.out x (List.mem_of_getElem? hx)
          have hcl := cnt_le L x.nm
          rw [Hn.out] at hcl
          have Hx := Lib.hid hx
          have Hpa := Lib.hid hpa
          have hgb : g ≠ b := fun e => HT.out.ne (by rw [e]; rfl)
          have hgm : g ≠ m := fun e => by have := Hvm.out g rfl; omega
          have hw9 : IntKind.i64.wrap (x.su + (cntI L x.nm : Int)) = x.su + (cntI L x.nm : Int) := lwrap_in (by omega) (by omega)
          clear hown hcs hx hpa e4 e5
          by_cases hmx : x.pk < (cntI L x.nm : Int)
          · have hme : max x.pk (cntI L x.nm : Int) = (cntI L x.nm : Int) := by omega
            go_wp2_with (at_lookup; refine at_look rfl _ _ 63 9 3 rfl ld_law_str Try.underlying63 Try.underlying9 _ (zero_int _) HM.out rfl _ rfl hnm ?_; rw [cnt_get])
            have e9 := ((Hown.out.stored (j * 4 + 2) (.int .i64 (x.su + (cntI L x.nm : Int)))).1.stored (j * 4 + 3) (.int .i64 (((cntI L x.nm : Int))))).1
            rw [acc_set _ _ _ _ _ Hpa.out] at e9
            have e8 : (part L A j).set j ⟨x.nm, x.pr, x.su + (cntI L x.nm : Int), ((cntI L x.nm : Int))⟩ = part L A (j + 1) := by
              rw [← part_step Hx.out]
              unfold addA
              rw [hme]
            rw [e8] at e9
            go_roundw
            case rel =>
              refine ⟨j + 1, by omega, by go_num, ⟨(HT.out.row.other (p := ⟨g, j * 4 + 2, none⟩) hgb.symm _).other (p := ⟨g, j * 4 + 3, none⟩) hgb.symm _, ?_, HT.out.ne, HT.out.hb⟩, (HM.out.same (Below.heap_setCell _ _ _ _ hgm.symm)).same (Below.heap_setCell _ _ _ _ hgm.symm), (HO2.out.setCell (.inl (by simp [Value.ownBlock])) _).setCell (.inl (by simp [Value.ownBlock])) _⟩
              rw [part_len, HnA.out]
              exact e9
            case measure => simp [intOf]; omega
          · have hme : max x.pk (cntI L x.nm : Int) = x.pk := by omega
            go_wp2_with (at_lookup; refine at_look rfl _ _ 63 9 3 rfl ld_law_str Try.underlying63 Try.underlying9 _ (zero_int _) HM.out rfl _ rfl hnm ?_; rw [cnt_get])
            have e9 := ((Hown.out.stored (j * 4 + 2) (.int .i64 (x.su + (cntI L x.nm : Int)))).1.stored (j * 4 + 3) (.int .i64 (x.pk))).1
            rw [acc_set _ _ _ _ _ Hpa.out] at e9
            have e8 : (part L A j).set j ⟨x.nm, x.pr, x.su + (cntI L x.nm : Int), x.pk⟩ = part L A (j + 1) := by
              rw [← part_step Hx.out]
              unfold addA
              rw [hme]
            rw [e8] at e9
            go_roundw
            case rel =>
              refine ⟨j + 1, by omega, by go_num, ⟨(HT.out.row.other (p := ⟨g, j * 4 + 2, none⟩) hgb.symm _).other (p := ⟨g, j * 4 + 3, none⟩) hgb.symm _, ?_, HT.out.ne, HT.out.hb⟩, (HM.out.same (Below.heap_setCell _ _ _ _ hgm.symm)).same (Below.heap_setCell _ _ _ _ hgm.symm), (HO2.out.setCell (.inl (by simp [Value.ownBlock])) _).setCell (.inl (by simp [Value.ownBlock])) _⟩
              rw [part_len, HnA.out]
              exact e9
            case measure => simp [intOf]; omega
        · obtain rfl : j = nA := by omega
          have hmm9 : w1.heap.size ≤ m := hmW
          have hO3 := Lib.hid (((HOW.out.fresh HO.out hmm9).mono (T := b :: (Value.slice a j ka).ownBlock.toList) (by simp)).trans (HO2.out.mono (fun z hz => List.mem_cons_of_mem _ hz)))
          have hT3 := Lib.hid (show LT wr base b (A.map (addA L)) (.slice a j ka) (tk + 1) by
            have h9 := HT.out
            have e9 : part L A j = A.map (addA L) := by rw [← HnA.out]; exact part_all L A
            rw [e9] at h9
            exact h9)
          go_wp2
          go_end0
          exact ⟨rfl, hT3.out, hO3.out⟩
end Go.Proofs.Ytaipiflbigpniaa
