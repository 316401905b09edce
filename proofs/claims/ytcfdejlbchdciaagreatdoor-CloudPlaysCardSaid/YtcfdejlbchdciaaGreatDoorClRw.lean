/-
  The document's provider: New.
-/
import Derived.Test.YtcfdejlbchdciaaGreatDoorClRj
import Derived.Test.YtcfdejlbchdciaaGreatDoorClW
import Derived.Deep.OwnRows
namespace Go.Proofs.YtcfdejlbchdciaaGreatDoor
open Go.RowKit
set_option linter.unusedVariables false
set_option linter.unusedSimpArgs false

theorem Tryz.info3 : (Tryz.prog.info? 3).map (fun i => (i.zero, i.size, i.bytes)) = some (some (.int .i64 0), 1, 8) := by kernel_rfl
theorem Tryz.info4 : (Tryz.prog.info? 4).map (fun i => (i.zero, i.size, i.bytes)) = some (some (.bool false), 1, 1) := by kernel_rfl
theorem made_ints (N : Nat) (V : World) (h : N ≤ 1000) : (Instr.makeSlice 62 (.int .i64 (N : Int)) (.int .i64 (N : Int))).run Tryz.prog V = .ok (.slice (some ⟨V.heap.size, 0, none⟩) N N) (V.alloc (.cells (madeCells #[.int .i64 0] N) 3)) :=
  run_make_row' 62 3 (.int .i64 0) 8 Tryz.underlying62 Tryz.info3 rfl .i64 .i64 N (by omega) (by omega) V
theorem made_bools (N : Nat) (V : World) (h : N ≤ 1000) : (Instr.makeSlice 63 (.int .i64 (N : Int)) (.int .i64 (N : Int))).run Tryz.prog V = .ok (.slice (some ⟨V.heap.size, 0, none⟩) N N) (V.alloc (.cells (madeCells #[.bool false] N) 4)) :=
  run_make_row' 63 4 (.bool false) 1 Tryz.underlying63 Tryz.info4 rfl .i64 .i64 N (by omega) (by omega) V
theorem own_ints (B N g : Nat) (w : World) (h : N ≤ 1000) (hB : B ≤ g) (hg : w.heap[g]? = some (.cells (madeCells #[.int .i64 0] N) 3)) : w.ownsRow B 3 1 (.slice (some ⟨g, 0, none⟩) N N) N ((List.replicate N pl0).flatMap tcl) := by
  have hlt : g < w.heap.size := (Array.getElem?_eq_some_iff.1 hg).1
  obtain ⟨V, hV⟩ : ∃ V : World, V = { w with heap := w.heap.extract 0 g } := ⟨_, rfl⟩
  have hs : V.heap.size = g := by rw [hV]; simp; omega
  obtain ⟨i0, hi, hz0, hz1, hz2⟩ := info_parts Tryz.info3
  obtain ⟨w', h1, h2, _⟩ := run_makeSlice_full V B 62 3 i0 _ 1 Tryz.underlying62 hi hz0 hz1 .i64 .i64 N (by omega) (by rw [hz2]; omega) (by unfold maxLen; omega) (by omega)
  rw [made_ints N V h] at h1
  injection h1 with _ h1
  subst h1
  rw [hs] at h2
  rw [show (madeCells (Value.int .i64 0).cells (N * 1)).toList = (List.replicate N pl0).flatMap tcl from made_flat tcl _ pl0 1 rfl rfl (by decide) N] at h2
  refine own_same h2 fun z hz => ?_
  obtain rfl : g = z := Option.some.inj hz
  rw [hg]
  show _ = (V.heap.push _)[g]?
  rw [← hs]
  simp
theorem own_bools (B N g : Nat) (w : World) (h : N ≤ 1000) (hB : B ≤ g) (hg : w.heap[g]? = some (.cells (madeCells #[.bool false] N) 4)) : w.ownsRow B 4 1 (.slice (some ⟨g, 0, none⟩) N N) N ((List.replicate N pl0).flatMap bcl) := by
  have hlt : g < w.heap.size := (Array.getElem?_eq_some_iff.1 hg).1
  obtain ⟨V, hV⟩ : ∃ V : World, V = { w with heap := w.heap.extract 0 g } := ⟨_, rfl⟩
  have hs : V.heap.size = g := by rw [hV]; simp; omega
  obtain ⟨i0, hi, hz0, hz1, hz2⟩ := info_parts Tryz.info4
  obtain ⟨w', h1, h2, _⟩ := run_makeSlice_full V B 63 4 i0 _ 1 Tryz.underlying63 hi hz0 hz1 .i64 .i64 N (by omega) (by rw [hz2]; omega) (by unfold maxLen; omega) (by omega)
  rw [made_bools N V h] at h1
  injection h1 with _ h1
  subst h1
  rw [hs] at h2
  rw [show (madeCells (Value.bool false).cells (N * 1)).toList = (List.replicate N pl0).flatMap bcl from made_flat bcl _ pl0 1 rfl rfl (by decide) N] at h2
  refine own_same h2 fun z hz => ?_
  obtain rfl : g = z := Option.some.inj hz
  rw [hg]
  show _ = (V.heap.push _)[g]?
  rw [← hs]
  simp

theorem repl_lt : ∀ n : Nat, (List.replicate n pl0).flatMap lcl = (List.replicate n pl0).flatMap tcl
  | 0 => rfl
  | n + 1 => by rw [List.replicate_succ, List.flatMap_cons, List.flatMap_cons, repl_lt n]; rfl
theorem heap_new (V : World) (o : Obj) (g : Nat) (h : V.heap.size = g) : (V.alloc o).heap[g]? = some o := by
  subst h
  show (V.heap.push _)[V.heap.size]? = _
  simp
theorem heap_old {V : World} (o : Obj) {g : Nat} {x : Obj} (h : V.heap[g]? = some x) : (V.alloc o).heap[g]? = some x := by
  have hlt : g < V.heap.size := (Array.getElem?_eq_some_iff.1 h).1
  show (V.heap.push _)[g]? = _
  rw [Array.getElem?_push, if_neg (by omega)]
  exact h

set_option maxRecDepth 100000 in
set_option maxHeartbeats 16000000 in
theorem rnew_yes (a : Option Addr) (l : List Gp) (ka : Nat) (d : Int) (w : World) (hF : GpL w a l) (hI : ∀ g ∈ l, MacIn w g.like) (hL : lightGs l = true) (hr : rightGs l = true) (hd : 1 ≤ d ∧ d ≤ 1000) :
    Calls Tryz.prog 7 #[.slice a l.length ka, .int .i64 d] w fun e w' => (∃ b tv lav bv lv, e = .returned (.tuple #[.pointer (some ⟨b, 0, none⟩), .int .i64 0]) ∧ RT w w' b a ka l (CS.new (l.map gkOf) d) tv lav bv lv) ∧ Below w.heap.size w w' := by
  have hok := rightGs_ok hr
  have h16 : l.length ≤ 16 := by have := hok.g16; rwa [List.length_map] at this
  have HR := Lib.hid (refrightgs_any a l ka w hF hI hL)
  rw [hr] at HR
  obtain ⟨N, hN⟩ : ∃ N, l.length = N := ⟨_, rfl⟩
  have HN := Lib.hid hN
  rw [hN] at HR h16 ⊢
  have k1 : decide (d < 1) = false := decide_eq_false (by omega)
  have k2 : decide (1000 < d) = false := decide_eq_false (by omega)
  have Hok := Lib.hid hok
  have HF := Lib.hid hF
  have hmi := fun V => made_ints N V (by omega)
  have hmb := fun V => made_bools N V (by omega)
  clear hF hI hL hr hN hok
  go_enter Tryz.func7, Tryz.ntmps7
  go_wp2_with (go_at_call 23; (with_reducible refine HR.out.mono ?_); rintro e w1 ⟨rfl, hb1⟩; have HB1 := Lib.hid hb1; clear hb1)
  go_region
  · skip
    generalize hW : World.drew _ = W
    have hBX : Blk W (w1.heap.size + 1 + 1 + 1) 65 [.slice a N ka, .slice (some ⟨w1.heap.size, 0, none⟩) N N, .slice (some ⟨w1.heap.size + 1, 0, none⟩) N N, .slice (some ⟨w1.heap.size + 1 + 1, 0, none⟩) N N, .slice none 0 0, .int .i64 d, .int .i64 0, .int .i64 0] := by
      rw [← hW]
      exact heap_new _ _ _ (by simp)
    have hBT : W.heap[w1.heap.size]? = some (.cells (madeCells #[.int .i64 0] N) 3) := by
      rw [← hW]
      first | (refine heap_old _ (heap_new _ _ _ ?_); (simp; done)) | (refine heap_old _ (heap_old _ (heap_new _ _ _ ?_)); (simp; done)) | (refine heap_old _ (heap_old _ (heap_old _ (heap_new _ _ _ ?_))); rfl)
    have hBL : W.heap[w1.heap.size + 1]? = some (.cells (madeCells #[.int .i64 0] N) 3) := by
      rw [← hW]
      first | (refine heap_old _ (heap_new _ _ _ ?_); (simp; done)) | (refine heap_old _ (heap_old _ (heap_new _ _ _ ?_)); (simp; done)) | (refine heap_old _ (heap_old _ (heap_old _ (heap_new _ _ _ ?_))); rfl)
    have hBB : W.heap[w1.heap.size + 1 + 1]? = some (.cells (madeCells #[.bool false] N) 4) := by
      rw [← hW]
      first | (refine heap_old _ (heap_new _ _ _ ?_); (simp; done)) | (refine heap_old _ (heap_old _ (heap_new _ _ _ ?_)); (simp; done)) | (refine heap_old _ (heap_old _ (heap_old _ (heap_new _ _ _ ?_))); rfl)
    have HBW := Lib.hid (show Below w1.heap.size w1 W from by rw [← hW]; (repeat' (first | with_reducible exact Below.refl _ _ | with_reducible assumption | with_reducible refine Below.drew ?_ | with_reducible refine below_drewN' ?_ _ | with_reducible refine Below.alloc ?_ ?_ _ | with_reducible refine Below.setCell ?_ ?_ _ | with_reducible refine below_step (by assumption) ?_ ?_ | omega | (simp; done) | (simp; omega))))
    clear hW
    have hPs : (CS.at (l.map gkOf) d 0).P = List.replicate N pl0 := by
      rw [at_zero]
      show (l.map gkOf).map (fun _ => pl0) = _
      rw [List.map_const', List.length_map, HN.out]
    have hz1 := HB1.out.size
    have HR0 := Lib.hid (show RT w W (w1.heap.size + 1 + 1 + 1) a ka l (CS.at (l.map gkOf) d 0) (.slice (some ⟨w1.heap.size, 0, none⟩) N N) (.slice (some ⟨w1.heap.size + 1, 0, none⟩) N N) (.slice (some ⟨w1.heap.size + 1 + 1, 0, none⟩) N N) (.slice none 0 0) from by
      refine ⟨by rw [HN.out]; exact hBX, HF.out, ?_, ?_, ?_, World.ownsRow_nil _ _ _ _, fun z h1 h2 => ?_, rfl, by omega, HB1.out.trans (HBW.out.mono hz1)⟩
      · rw [hPs, List.length_replicate]; exact own_ints _ N (w1.heap.size) W (by omega) (by omega) hBT
      · rw [hPs, List.length_replicate, repl_lt]; exact own_ints _ N (w1.heap.size + 1) W (by omega) (by omega) hBL
      · rw [hPs, List.length_replicate]; exact own_bools _ N (w1.heap.size + 1 + 1) W (by omega) (by omega) hBB
      · have e1 := Option.some.inj h1
        have e2 := Option.some.inj h2
        dsimp only at e1 e2
        omega)
    clear hPs hBT hBL hBB
    go_wp2
    have HRT0 := Lib.hid HR0.out
    clear HR0 hBX HBW
    go_loopw [7, 8] (fun i _ wr => ∃ (k : Nat) (v : Value), k ≤ N ∧ i = .int .i64 k ∧ RT w wr (w1.heap.size + 1 + 1 + 1) a ka l (CS.at (l.map gkOf) d k) (.slice (some ⟨w1.heap.size, 0, none⟩) N N) (.slice (some ⟨w1.heap.size + 1, 0, none⟩) N N) (.slice (some ⟨w1.heap.size + 1 + 1, 0, none⟩) N N) v) (fun i _ _ => N - (intOf i).toNat)
    case atStart => exact ⟨0, _, Nat.zero_le _, rfl, HRT0.out⟩
    case round =>
      clear HRT0
      obtain ⟨k, v, hk, rfl, hT⟩ := hrel
      have HTr := Lib.hid hT
      by_cases hlt : k < N
      · obtain ⟨g', hg'⟩ := mem_at (l := l) (k := k) (by rw [HN.out]; exact hlt)
        have Hg' := Lib.hid hg'
        have hGk : (l.map gkOf)[k]? = some (gkOf g') := by rw [List.getElem?_map, hg']; rfl
        obtain ⟨m0, m1, m2, m3, m4⟩ := Hok.out.gb _ (List.mem_of_getElem? hGk)
        have m0 : 0 ≤ g'.mn := m0
        have m1 : g'.mn ≤ g'.mx := m1
        have m3 : g'.mx ≤ 200 := m3
        have m4 : g'.nm.size ≤ 300 := m4
        obtain ⟨nn, hnn⟩ : ∃ nn : Nat, g'.mn = (nn : Int) := ⟨g'.mn.toNat, by omega⟩
        have hnb : nn ≤ 200 := by omega
        have hkl : k < (l.map gkOf).length := lt_at hGk
        have hpk : (CS.at (l.map gkOf) d k).P[k]? = some pl0 := at_pool hkl
        have hPl : (CS.at (l.map gkOf) d k).P.length = N := by
          show ((((l.map gkOf).take k).map plN) ++ ((l.map gkOf).drop k).map fun _ => pl0).length = N
          rw [List.length_append, List.length_map, List.length_map, List.length_take, List.length_drop, List.length_map, HN.out]
          omega
        have hLl : (CS.at (l.map gkOf) d k).L.length ≤ 1000000 := by
          have h9 := insN_len ((l.map gkOf).take k) fun g hg => by
            obtain ⟨q0, q1, q2, q3, _⟩ := Hok.out.gb g (List.mem_of_mem_take hg)
            omega
          rw [List.length_take] at h9
          show (((l.map gkOf).take k).flatMap insN).length ≤ _
          omega
        have Hpk := Lib.hid hpk
        have HPl := Lib.hid hPl
        have HLl := Lib.hid hLl
        have Hnx := Lib.hid (show (CS.at (l.map gkOf) d k).req k (gkOf g') pl0 ⟨emp, emp, 2, 0, 0⟩ nn = CS.at (l.map gkOf) d (k + 1) from by
          have h9 := at_next (dl := d) hGk m0
          rw [show (gkOf g').mn.toNat = nn from by show g'.mn.toNat = nn; omega] at h9
          exact h9)
        obtain ⟨gb, go, hga, hgb, hgc⟩ := HF.out (by rw [HN.out]; omega)
        have x1 : wr.cell? ⟨gb, go + k * 15 + 1, none⟩ = some (.int .i64 nn) := by rw [← hnn]; exact (hT.bl.cell (p := ⟨gb, go + k * 15 + 1, none⟩) hgb).trans (hgc k g' hg' 1 (by decide))
        have X0 := Lib.hid (show ∀ V : World, Below w.heap.size w V → V.cell? ⟨gb, go + k * 15 + 1, none⟩ = some (.int .i64 nn) from fun V hV => by rw [← hnn]; exact (hV.cell (p := ⟨gb, go + k * 15 + 1, none⟩) hgb).trans (hgc k g' hg' 1 (by decide)))
        obtain ⟨ta, tk, te, hTa⟩ := hT.tAt
        obtain ⟨tq, te2, tl, td⟩ := hTa (by rw [hPl]; omega)
        have tqe : w1.heap.size = tq := by rw [te2] at te; injection te with e1; injection e1 with e1; injection e1
        have t1 : wr.cell? ⟨w1.heap.size, k, none⟩ = some (.int .i64 0) := by rw [tqe]; exact td k pl0 hpk
        have tl1 : w1.heap.size < wr.heap.size := by rw [tqe]; exact tl
        have hto := hT.to
        rw [hPl] at hto
        have tf := hto.frozenAt k
        clear hto
        have b1 := hT.row.cell 1
        dsimp only [List.getElem?_cons_zero, List.getElem?_cons_succ] at b1
        have hbl := hT.row.lt
        have hgbw : gb < wr.heap.size := Nat.lt_of_lt_of_le hgb hT.bl.size
        have hki : (k : Int) < (N : Int) := by omega
        have hk0 : (0 : Int) ≤ (k : Int) := by omega
        subst hga
        clear hg' hGk hnn hkl hpk hPl hLl hgc te te2 tqe td hTa hT m1 m2 m3 tl
        go_wp2
        have hcH := held_cell
        refine region_rel_tail 11 (by kernel_rfl) (by kernel_rfl) (by kernel_rfl) ?_
        dsimp only [List.take, List.drop]
        repeat
          ((with_reducible refine relStep (fun K hK => ?_))
           (have HK := Lib.hid hK)
           clear hK
           (apply relInl
            · intro r n hf
              have Hf := Lib.hid hf
              clear hf
              (first
                | (fail)
                | (unfold relAt
                   go_simp
                   (first | (refine relUpon_val ?_ (Below.refl _ _); exact rfl) | exact rfl | (refine relUpon_enter ?_; fail))))
            (simp only [Act.put, List.setIfInBounds_toArray, List.set_cons_zero, List.set_cons_succ])
            (with_reducible refine HK.out _ _ ?_)
            clear HK K))
        refine relNil ?_
        intro r6 n6 hx6
        clear hcH
        (try simp only [List.nil_append, List.cons_append, List.mem_cons, List.not_mem_nil, or_false, forall_eq_or_imp, forall_eq, false_implies, implies_true] at hx6)
        obtain ⟨w6, hb6⟩ := n6
        (try dsimp only)
        obtain ⟨hc6, hf6⟩ := bcell hb6
        have hz6 := hb6.size
        (try simp at hz6)
        have HT6 := Lib.hid (HTr.out.below hb6)
        have u1 : w6.cell? ⟨w1.heap.size, k, none⟩ = _ := (hc6 (w1.heap.size) k tl1).trans t1
        have hto := HT6.out.to
        rw [HPl.out] at hto
        have uf := hto.frozenAt k
        clear hc6 hf6 hb6 t1 tf b1 x1 hto
        go_wp2
        obtain ⟨W6, hW6⟩ : ∃ W6, W6 = w6.setCell ⟨w1.heap.size, k, none⟩ (.int .i64 nn) := ⟨_, rfl⟩
        rw [← hW6]
        have HT7 := Lib.hid (show RT w W6 (w1.heap.size + 1 + 1 + 1) (some ⟨gb, go, none⟩) ka l ((CS.at (l.map gkOf) d k).part k (gkOf g') pl0 ⟨emp, emp, 2, 0, 0⟩ nn 0) (.slice (some ⟨w1.heap.size, 0, none⟩) N N) (.slice (some ⟨w1.heap.size + 1, 0, none⟩) N N) (.slice (some ⟨w1.heap.size + 1 + 1, 0, none⟩) N N) v from by
          have h9 := HT6.out.tset rfl (nn : Int) Hpk.out
          rw [part_zero, hW6]
          rw [show pl0.t + (nn : Int) = (nn : Int) from Int.zero_add _]
          exact h9)
        obtain ⟨w5, h5⟩ : ∃ w5, w5 = wr := ⟨_, rfl⟩
        subst h5
        clear hW6 u1 uf
        go_loopw [8] (fun i wr => ∃ (q : Nat) (v : Value), q ≤ nn ∧ i = .int .i64 q ∧ RT w wr (w1.heap.size + 1 + 1 + 1) (some ⟨gb, go, none⟩) ka l ((CS.at (l.map gkOf) d k).part k (gkOf g') pl0 ⟨emp, emp, 2, 0, 0⟩ nn q) (.slice (some ⟨w1.heap.size, 0, none⟩) N N) (.slice (some ⟨w1.heap.size + 1, 0, none⟩) N N) (.slice (some ⟨w1.heap.size + 1 + 1, 0, none⟩) N N) v) (fun i _ => nn - (intOf i).toNat)
        case atStart => exact ⟨0, _, Nat.zero_le _, rfl, HT7.out⟩
        case round =>
          obtain ⟨q, v5, hq, rfl, hT5⟩ := hrel
          have x1 := X0.out wr hT5.bl
          have HT5 := Lib.hid hT5
          by_cases hlq : q < nn
          · have hPk : ((CS.at (l.map gkOf) d k).part k (gkOf g') pl0 ⟨emp, emp, 2, 0, 0⟩ nn q).P.length = ((CS.at (l.map gkOf) d k).part k (gkOf g') pl0 ⟨emp, emp, 2, 0, 0⟩ nn q).G.length := by
              show ((CS.at (l.map gkOf) d k).P.set k _).length = (l.map gkOf).length
              rw [List.length_set, HPl.out, List.length_map, HN.out]
            have hLk : ((CS.at (l.map gkOf) d k).part k (gkOf g') pl0 ⟨emp, emp, 2, 0, 0⟩ nn q).L.length ≤ 10000000 := by
              show ((CS.at (l.map gkOf) d k).L ++ moreI _ _ _ q).length ≤ _
              rw [List.length_append, moreI_len]
              have := HLl.out
              omega
            have HMo := Lib.hid (show Calls Tryz.prog 24 #[.pointer (some ⟨w1.heap.size + 1 + 1 + 1, 0, none⟩), .int .i64 k, .int .i64 2, .int .i64 0] wr fun e w' => e = .returned (.tuple #[]) ∧ ∃ v', RT w w' (w1.heap.size + 1 + 1 + 1) (some ⟨gb, go, none⟩) ka l ((CS.at (l.map gkOf) d k).part k (gkOf g') pl0 ⟨emp, emp, 2, 0, 0⟩ nn (q + 1)) (.slice (some ⟨w1.heap.size, 0, none⟩) N N) (.slice (some ⟨w1.heap.size + 1, 0, none⟩) N N) (.slice (some ⟨w1.heap.size + 1 + 1, 0, none⟩) N N) v' from by
              have h9 := rmore_any w (w1.heap.size + 1 + 1 + 1) _ ka l _ _ _ _ v5 k g' _ 2 0 wr hT5 hPk Hg'.out (part_pool (by rw [HPl.out]; exact hlt)) m4 ⟨by show 0 ≤ (0 : Int) + (q : Int); omega, by show (0 : Int) + (q : Int) ≤ _; omega⟩ hLk (by rw [HN.out]; exact h16)
              have h8 : ((CS.at (l.map gkOf) d k).part k (gkOf g') pl0 ⟨emp, emp, 2, 0, 0⟩ nn q).mor k (gkOf g') ⟨pl0.t + nn, pl0.la + q, pl0.br⟩ 2 0 = (CS.at (l.map gkOf) d k).part k (gkOf g') pl0 ⟨emp, emp, 2, 0, 0⟩ nn (q + 1) := mor_part (CS.at (l.map gkOf) d k) k (gkOf g') pl0 nn q 2 0
              rw [h8] at h9
              refine h9.mono ?_
              rintro e w' ⟨rfl, v', hh, _⟩
              exact ⟨rfl, v', hh⟩)
            clear hT5 hPk hLk
            go_wp2_with (go_at_call 24; (with_reducible refine HMo.out.mono ?_); rintro e w9 ⟨rfl, v', hT9⟩; have HT9 := Lib.hid hT9; clear hT9)
            go_roundw
            case rel => exact ⟨q + 1, v', by omega, by go_num, HT9.out⟩
            case measure => simp [intOf]; omega
          · obtain rfl : q = nn := by omega
            have HTe := Lib.hid (Hnx.out ▸ (show RT w wr (w1.heap.size + 1 + 1 + 1) (some ⟨gb, go, none⟩) ka l ((CS.at (l.map gkOf) d k).req k (gkOf g') pl0 ⟨emp, emp, 2, 0, 0⟩ q) (.slice (some ⟨w1.heap.size, 0, none⟩) N N) (.slice (some ⟨w1.heap.size + 1, 0, none⟩) N N) (.slice (some ⟨w1.heap.size + 1 + 1, 0, none⟩) N N) v5 from hT5))
            clear hT5
            go_wp2
            go_roundw
            case rel => exact ⟨k + 1, v5, by omega, by go_num, HTe.out⟩
            case measure => simp [intOf]; omega
      · obtain rfl : k = N := by omega
        have hall : CS.at (l.map gkOf) d k = CS.new (l.map gkOf) d := at_all _ _ (by rw [List.length_map, HN.out]; exact Nat.le_refl _)
        rw [hall] at HTr
        clear hT hall
        go_wp2
        go_ret2
        exact ⟨⟨_, _, _, _, _, rfl, HTr.out⟩, HTr.out.bl⟩
  · skip
    generalize hW : World.drew _ = W
    have hBX : Blk W (w1.heap.size + 1 + 1 + 1) 65 [.slice a N ka, .slice (some ⟨w1.heap.size, 0, none⟩) N N, .slice (some ⟨w1.heap.size + 1 + 1, 0, none⟩) N N, .slice (some ⟨w1.heap.size + 1, 0, none⟩) N N, .slice none 0 0, .int .i64 d, .int .i64 0, .int .i64 0] := by
      rw [← hW]
      exact heap_new _ _ _ (by simp)
    have hBT : W.heap[w1.heap.size]? = some (.cells (madeCells #[.int .i64 0] N) 3) := by
      rw [← hW]
      first | (refine heap_old _ (heap_new _ _ _ ?_); (simp; done)) | (refine heap_old _ (heap_old _ (heap_new _ _ _ ?_)); (simp; done)) | (refine heap_old _ (heap_old _ (heap_old _ (heap_new _ _ _ ?_))); rfl)
    have hBL : W.heap[w1.heap.size + 1 + 1]? = some (.cells (madeCells #[.int .i64 0] N) 3) := by
      rw [← hW]
      first | (refine heap_old _ (heap_new _ _ _ ?_); (simp; done)) | (refine heap_old _ (heap_old _ (heap_new _ _ _ ?_)); (simp; done)) | (refine heap_old _ (heap_old _ (heap_old _ (heap_new _ _ _ ?_))); rfl)
    have hBB : W.heap[w1.heap.size + 1]? = some (.cells (madeCells #[.bool false] N) 4) := by
      rw [← hW]
      first | (refine heap_old _ (heap_new _ _ _ ?_); (simp; done)) | (refine heap_old _ (heap_old _ (heap_new _ _ _ ?_)); (simp; done)) | (refine heap_old _ (heap_old _ (heap_old _ (heap_new _ _ _ ?_))); rfl)
    have HBW := Lib.hid (show Below w1.heap.size w1 W from by rw [← hW]; (repeat' (first | with_reducible exact Below.refl _ _ | with_reducible assumption | with_reducible refine Below.drew ?_ | with_reducible refine below_drewN' ?_ _ | with_reducible refine Below.alloc ?_ ?_ _ | with_reducible refine Below.setCell ?_ ?_ _ | with_reducible refine below_step (by assumption) ?_ ?_ | omega | (simp; done) | (simp; omega))))
    clear hW
    have hPs : (CS.at (l.map gkOf) d 0).P = List.replicate N pl0 := by
      rw [at_zero]
      show (l.map gkOf).map (fun _ => pl0) = _
      rw [List.map_const', List.length_map, HN.out]
    have hz1 := HB1.out.size
    have HR0 := Lib.hid (show RT w W (w1.heap.size + 1 + 1 + 1) a ka l (CS.at (l.map gkOf) d 0) (.slice (some ⟨w1.heap.size, 0, none⟩) N N) (.slice (some ⟨w1.heap.size + 1 + 1, 0, none⟩) N N) (.slice (some ⟨w1.heap.size + 1, 0, none⟩) N N) (.slice none 0 0) from by
      refine ⟨by rw [HN.out]; exact hBX, HF.out, ?_, ?_, ?_, World.ownsRow_nil _ _ _ _, fun z h1 h2 => ?_, rfl, by omega, HB1.out.trans (HBW.out.mono hz1)⟩
      · rw [hPs, List.length_replicate]; exact own_ints _ N (w1.heap.size) W (by omega) (by omega) hBT
      · rw [hPs, List.length_replicate, repl_lt]; exact own_ints _ N (w1.heap.size + 1 + 1) W (by omega) (by omega) hBL
      · rw [hPs, List.length_replicate]; exact own_bools _ N (w1.heap.size + 1) W (by omega) (by omega) hBB
      · have e1 := Option.some.inj h1
        have e2 := Option.some.inj h2
        dsimp only at e1 e2
        omega)
    clear hPs hBT hBL hBB
    go_wp2
    have HRT0 := Lib.hid HR0.out
    clear HR0 hBX HBW
    go_loopw [7, 8] (fun i _ wr => ∃ (k : Nat) (v : Value), k ≤ N ∧ i = .int .i64 k ∧ RT w wr (w1.heap.size + 1 + 1 + 1) a ka l (CS.at (l.map gkOf) d k) (.slice (some ⟨w1.heap.size, 0, none⟩) N N) (.slice (some ⟨w1.heap.size + 1 + 1, 0, none⟩) N N) (.slice (some ⟨w1.heap.size + 1, 0, none⟩) N N) v) (fun i _ _ => N - (intOf i).toNat)
    case atStart => exact ⟨0, _, Nat.zero_le _, rfl, HRT0.out⟩
    case round =>
      clear HRT0
      obtain ⟨k, v, hk, rfl, hT⟩ := hrel
      have HTr := Lib.hid hT
      by_cases hlt : k < N
      · obtain ⟨g', hg'⟩ := mem_at (l := l) (k := k) (by rw [HN.out]; exact hlt)
        have Hg' := Lib.hid hg'
        have hGk : (l.map gkOf)[k]? = some (gkOf g') := by rw [List.getElem?_map, hg']; rfl
        obtain ⟨m0, m1, m2, m3, m4⟩ := Hok.out.gb _ (List.mem_of_getElem? hGk)
        have m0 : 0 ≤ g'.mn := m0
        have m1 : g'.mn ≤ g'.mx := m1
        have m3 : g'.mx ≤ 200 := m3
        have m4 : g'.nm.size ≤ 300 := m4
        obtain ⟨nn, hnn⟩ : ∃ nn : Nat, g'.mn = (nn : Int) := ⟨g'.mn.toNat, by omega⟩
        have hnb : nn ≤ 200 := by omega
        have hkl : k < (l.map gkOf).length := lt_at hGk
        have hpk : (CS.at (l.map gkOf) d k).P[k]? = some pl0 := at_pool hkl
        have hPl : (CS.at (l.map gkOf) d k).P.length = N := by
          show ((((l.map gkOf).take k).map plN) ++ ((l.map gkOf).drop k).map fun _ => pl0).length = N
          rw [List.length_append, List.length_map, List.length_map, List.length_take, List.length_drop, List.length_map, HN.out]
          omega
        have hLl : (CS.at (l.map gkOf) d k).L.length ≤ 1000000 := by
          have h9 := insN_len ((l.map gkOf).take k) fun g hg => by
            obtain ⟨q0, q1, q2, q3, _⟩ := Hok.out.gb g (List.mem_of_mem_take hg)
            omega
          rw [List.length_take] at h9
          show (((l.map gkOf).take k).flatMap insN).length ≤ _
          omega
        have Hpk := Lib.hid hpk
        have HPl := Lib.hid hPl
        have HLl := Lib.hid hLl
        have Hnx := Lib.hid (show (CS.at (l.map gkOf) d k).req k (gkOf g') pl0 ⟨emp, emp, 2, 0, 0⟩ nn = CS.at (l.map gkOf) d (k + 1) from by
          have h9 := at_next (dl := d) hGk m0
          rw [show (gkOf g').mn.toNat = nn from by show g'.mn.toNat = nn; omega] at h9
          exact h9)
        obtain ⟨gb, go, hga, hgb, hgc⟩ := HF.out (by rw [HN.out]; omega)
        have x1 : wr.cell? ⟨gb, go + k * 15 + 1, none⟩ = some (.int .i64 nn) := by rw [← hnn]; exact (hT.bl.cell (p := ⟨gb, go + k * 15 + 1, none⟩) hgb).trans (hgc k g' hg' 1 (by decide))
        have X0 := Lib.hid (show ∀ V : World, Below w.heap.size w V → V.cell? ⟨gb, go + k * 15 + 1, none⟩ = some (.int .i64 nn) from fun V hV => by rw [← hnn]; exact (hV.cell (p := ⟨gb, go + k * 15 + 1, none⟩) hgb).trans (hgc k g' hg' 1 (by decide)))
        obtain ⟨ta, tk, te, hTa⟩ := hT.tAt
        obtain ⟨tq, te2, tl, td⟩ := hTa (by rw [hPl]; omega)
        have tqe : w1.heap.size = tq := by rw [te2] at te; injection te with e1; injection e1 with e1; injection e1
        have t1 : wr.cell? ⟨w1.heap.size, k, none⟩ = some (.int .i64 0) := by rw [tqe]; exact td k pl0 hpk
        have tl1 : w1.heap.size < wr.heap.size := by rw [tqe]; exact tl
        have hto := hT.to
        rw [hPl] at hto
        have tf := hto.frozenAt k
        clear hto
        have b1 := hT.row.cell 1
        dsimp only [List.getElem?_cons_zero, List.getElem?_cons_succ] at b1
        have hbl := hT.row.lt
        have hgbw : gb < wr.heap.size := Nat.lt_of_lt_of_le hgb hT.bl.size
        have hki : (k : Int) < (N : Int) := by omega
        have hk0 : (0 : Int) ≤ (k : Int) := by omega
        subst hga
        clear hg' hGk hnn hkl hpk hPl hLl hgc te te2 tqe td hTa hT m1 m2 m3 tl
        go_wp2
        have hcH := held_cell
        refine region_rel_tail 11 (by kernel_rfl) (by kernel_rfl) (by kernel_rfl) ?_
        dsimp only [List.take, List.drop]
        repeat
          ((with_reducible refine relStep (fun K hK => ?_))
           (have HK := Lib.hid hK)
           clear hK
           (apply relInl
            · intro r n hf
              have Hf := Lib.hid hf
              clear hf
              (first
                | (fail)
                | (unfold relAt
                   go_simp
                   (first | (refine relUpon_val ?_ (Below.refl _ _); exact rfl) | exact rfl | (refine relUpon_enter ?_; fail))))
            (simp only [Act.put, List.setIfInBounds_toArray, List.set_cons_zero, List.set_cons_succ])
            (with_reducible refine HK.out _ _ ?_)
            clear HK K))
        refine relNil ?_
        intro r6 n6 hx6
        clear hcH
        (try simp only [List.nil_append, List.cons_append, List.mem_cons, List.not_mem_nil, or_false, forall_eq_or_imp, forall_eq, false_implies, implies_true] at hx6)
        obtain ⟨w6, hb6⟩ := n6
        (try dsimp only)
        obtain ⟨hc6, hf6⟩ := bcell hb6
        have hz6 := hb6.size
        (try simp at hz6)
        have HT6 := Lib.hid (HTr.out.below hb6)
        have u1 : w6.cell? ⟨w1.heap.size, k, none⟩ = _ := (hc6 (w1.heap.size) k tl1).trans t1
        have hto := HT6.out.to
        rw [HPl.out] at hto
        have uf := hto.frozenAt k
        clear hc6 hf6 hb6 t1 tf b1 x1 hto
        go_wp2
        obtain ⟨W6, hW6⟩ : ∃ W6, W6 = w6.setCell ⟨w1.heap.size, k, none⟩ (.int .i64 nn) := ⟨_, rfl⟩
        rw [← hW6]
        have HT7 := Lib.hid (show RT w W6 (w1.heap.size + 1 + 1 + 1) (some ⟨gb, go, none⟩) ka l ((CS.at (l.map gkOf) d k).part k (gkOf g') pl0 ⟨emp, emp, 2, 0, 0⟩ nn 0) (.slice (some ⟨w1.heap.size, 0, none⟩) N N) (.slice (some ⟨w1.heap.size + 1 + 1, 0, none⟩) N N) (.slice (some ⟨w1.heap.size + 1, 0, none⟩) N N) v from by
          have h9 := HT6.out.tset rfl (nn : Int) Hpk.out
          rw [part_zero, hW6]
          rw [show pl0.t + (nn : Int) = (nn : Int) from Int.zero_add _]
          exact h9)
        obtain ⟨w5, h5⟩ : ∃ w5, w5 = wr := ⟨_, rfl⟩
        subst h5
        clear hW6 u1 uf
        go_loopw [8] (fun i wr => ∃ (q : Nat) (v : Value), q ≤ nn ∧ i = .int .i64 q ∧ RT w wr (w1.heap.size + 1 + 1 + 1) (some ⟨gb, go, none⟩) ka l ((CS.at (l.map gkOf) d k).part k (gkOf g') pl0 ⟨emp, emp, 2, 0, 0⟩ nn q) (.slice (some ⟨w1.heap.size, 0, none⟩) N N) (.slice (some ⟨w1.heap.size + 1 + 1, 0, none⟩) N N) (.slice (some ⟨w1.heap.size + 1, 0, none⟩) N N) v) (fun i _ => nn - (intOf i).toNat)
        case atStart => exact ⟨0, _, Nat.zero_le _, rfl, HT7.out⟩
        case round =>
          obtain ⟨q, v5, hq, rfl, hT5⟩ := hrel
          have x1 := X0.out wr hT5.bl
          have HT5 := Lib.hid hT5
          by_cases hlq : q < nn
          · have hPk : ((CS.at (l.map gkOf) d k).part k (gkOf g') pl0 ⟨emp, emp, 2, 0, 0⟩ nn q).P.length = ((CS.at (l.map gkOf) d k).part k (gkOf g') pl0 ⟨emp, emp, 2, 0, 0⟩ nn q).G.length := by
              show ((CS.at (l.map gkOf) d k).P.set k _).length = (l.map gkOf).length
              rw [List.length_set, HPl.out, List.length_map, HN.out]
            have hLk : ((CS.at (l.map gkOf) d k).part k (gkOf g') pl0 ⟨emp, emp, 2, 0, 0⟩ nn q).L.length ≤ 10000000 := by
              show ((CS.at (l.map gkOf) d k).L ++ moreI _ _ _ q).length ≤ _
              rw [List.length_append, moreI_len]
              have := HLl.out
              omega
            have HMo := Lib.hid (show Calls Tryz.prog 24 #[.pointer (some ⟨w1.heap.size + 1 + 1 + 1, 0, none⟩), .int .i64 k, .int .i64 2, .int .i64 0] wr fun e w' => e = .returned (.tuple #[]) ∧ ∃ v', RT w w' (w1.heap.size + 1 + 1 + 1) (some ⟨gb, go, none⟩) ka l ((CS.at (l.map gkOf) d k).part k (gkOf g') pl0 ⟨emp, emp, 2, 0, 0⟩ nn (q + 1)) (.slice (some ⟨w1.heap.size, 0, none⟩) N N) (.slice (some ⟨w1.heap.size + 1 + 1, 0, none⟩) N N) (.slice (some ⟨w1.heap.size + 1, 0, none⟩) N N) v' from by
              have h9 := rmore_any w (w1.heap.size + 1 + 1 + 1) _ ka l _ _ _ _ v5 k g' _ 2 0 wr hT5 hPk Hg'.out (part_pool (by rw [HPl.out]; exact hlt)) m4 ⟨by show 0 ≤ (0 : Int) + (q : Int); omega, by show (0 : Int) + (q : Int) ≤ _; omega⟩ hLk (by rw [HN.out]; exact h16)
              have h8 : ((CS.at (l.map gkOf) d k).part k (gkOf g') pl0 ⟨emp, emp, 2, 0, 0⟩ nn q).mor k (gkOf g') ⟨pl0.t + nn, pl0.la + q, pl0.br⟩ 2 0 = (CS.at (l.map gkOf) d k).part k (gkOf g') pl0 ⟨emp, emp, 2, 0, 0⟩ nn (q + 1) := mor_part (CS.at (l.map gkOf) d k) k (gkOf g') pl0 nn q 2 0
              rw [h8] at h9
              refine h9.mono ?_
              rintro e w' ⟨rfl, v', hh, _⟩
              exact ⟨rfl, v', hh⟩)
            clear hT5 hPk hLk
            go_wp2_with (go_at_call 24; (with_reducible refine HMo.out.mono ?_); rintro e w9 ⟨rfl, v', hT9⟩; have HT9 := Lib.hid hT9; clear hT9)
            go_roundw
            case rel => exact ⟨q + 1, v', by omega, by go_num, HT9.out⟩
            case measure => simp [intOf]; omega
          · obtain rfl : q = nn := by omega
            have HTe := Lib.hid (Hnx.out ▸ (show RT w wr (w1.heap.size + 1 + 1 + 1) (some ⟨gb, go, none⟩) ka l ((CS.at (l.map gkOf) d k).req k (gkOf g') pl0 ⟨emp, emp, 2, 0, 0⟩ q) (.slice (some ⟨w1.heap.size, 0, none⟩) N N) (.slice (some ⟨w1.heap.size + 1 + 1, 0, none⟩) N N) (.slice (some ⟨w1.heap.size + 1, 0, none⟩) N N) v5 from hT5))
            clear hT5
            go_wp2
            go_roundw
            case rel => exact ⟨k + 1, v5, by omega, by go_num, HTe.out⟩
            case measure => simp [intOf]; omega
      · obtain rfl : k = N := by omega
        have hall : CS.at (l.map gkOf) d k = CS.new (l.map gkOf) d := at_all _ _ (by rw [List.length_map, HN.out]; exact Nat.le_refl _)
        rw [hall] at HTr
        clear hT hall
        go_wp2
        go_ret2
        exact ⟨⟨_, _, _, _, _, rfl, HTr.out⟩, HTr.out.bl⟩
  · skip
    generalize hW : World.drew _ = W
    have hBX : Blk W (w1.heap.size + 1 + 1 + 1) 65 [.slice a N ka, .slice (some ⟨w1.heap.size + 1, 0, none⟩) N N, .slice (some ⟨w1.heap.size, 0, none⟩) N N, .slice (some ⟨w1.heap.size + 1 + 1, 0, none⟩) N N, .slice none 0 0, .int .i64 d, .int .i64 0, .int .i64 0] := by
      rw [← hW]
      exact heap_new _ _ _ (by simp)
    have hBT : W.heap[w1.heap.size + 1]? = some (.cells (madeCells #[.int .i64 0] N) 3) := by
      rw [← hW]
      first | (refine heap_old _ (heap_new _ _ _ ?_); (simp; done)) | (refine heap_old _ (heap_old _ (heap_new _ _ _ ?_)); (simp; done)) | (refine heap_old _ (heap_old _ (heap_old _ (heap_new _ _ _ ?_))); rfl)
    have hBL : W.heap[w1.heap.size]? = some (.cells (madeCells #[.int .i64 0] N) 3) := by
      rw [← hW]
      first | (refine heap_old _ (heap_new _ _ _ ?_); (simp; done)) | (refine heap_old _ (heap_old _ (heap_new _ _ _ ?_)); (simp; done)) | (refine heap_old _ (heap_old _ (heap_old _ (heap_new _ _ _ ?_))); rfl)
    have hBB : W.heap[w1.heap.size + 1 + 1]? = some (.cells (madeCells #[.bool false] N) 4) := by
      rw [← hW]
      first | (refine heap_old _ (heap_new _ _ _ ?_); (simp; done)) | (refine heap_old _ (heap_old _ (heap_new _ _ _ ?_)); (simp; done)) | (refine heap_old _ (heap_old _ (heap_old _ (heap_new _ _ _ ?_))); rfl)
    have HBW := Lib.hid (show Below w1.heap.size w1 W from by rw [← hW]; (repeat' (first | with_reducible exact Below.refl _ _ | with_reducible assumption | with_reducible refine Below.drew ?_ | with_reducible refine below_drewN' ?_ _ | with_reducible refine Below.alloc ?_ ?_ _ | with_reducible refine Below.setCell ?_ ?_ _ | with_reducible refine below_step (by assumption) ?_ ?_ | omega | (simp; done) | (simp; omega))))
    clear hW
    have hPs : (CS.at (l.map gkOf) d 0).P = List.replicate N pl0 := by
      rw [at_zero]
      show (l.map gkOf).map (fun _ => pl0) = _
      rw [List.map_const', List.length_map, HN.out]
    have hz1 := HB1.out.size
    have HR0 := Lib.hid (show RT w W (w1.heap.size + 1 + 1 + 1) a ka l (CS.at (l.map gkOf) d 0) (.slice (some ⟨w1.heap.size + 1, 0, none⟩) N N) (.slice (some ⟨w1.heap.size, 0, none⟩) N N) (.slice (some ⟨w1.heap.size + 1 + 1, 0, none⟩) N N) (.slice none 0 0) from by
      refine ⟨by rw [HN.out]; exact hBX, HF.out, ?_, ?_, ?_, World.ownsRow_nil _ _ _ _, fun z h1 h2 => ?_, rfl, by omega, HB1.out.trans (HBW.out.mono hz1)⟩
      · rw [hPs, List.length_replicate]; exact own_ints _ N (w1.heap.size + 1) W (by omega) (by omega) hBT
      · rw [hPs, List.length_replicate, repl_lt]; exact own_ints _ N (w1.heap.size) W (by omega) (by omega) hBL
      · rw [hPs, List.length_replicate]; exact own_bools _ N (w1.heap.size + 1 + 1) W (by omega) (by omega) hBB
      · have e1 := Option.some.inj h1
        have e2 := Option.some.inj h2
        dsimp only at e1 e2
        omega)
    clear hPs hBT hBL hBB
    go_wp2
    have HRT0 := Lib.hid HR0.out
    clear HR0 hBX HBW
    go_loopw [7, 8] (fun i _ wr => ∃ (k : Nat) (v : Value), k ≤ N ∧ i = .int .i64 k ∧ RT w wr (w1.heap.size + 1 + 1 + 1) a ka l (CS.at (l.map gkOf) d k) (.slice (some ⟨w1.heap.size + 1, 0, none⟩) N N) (.slice (some ⟨w1.heap.size, 0, none⟩) N N) (.slice (some ⟨w1.heap.size + 1 + 1, 0, none⟩) N N) v) (fun i _ _ => N - (intOf i).toNat)
    case atStart => exact ⟨0, _, Nat.zero_le _, rfl, HRT0.out⟩
    case round =>
      clear HRT0
      obtain ⟨k, v, hk, rfl, hT⟩ := hrel
      have HTr := Lib.hid hT
      by_cases hlt : k < N
      · obtain ⟨g', hg'⟩ := mem_at (l := l) (k := k) (by rw [HN.out]; exact hlt)
        have Hg' := Lib.hid hg'
        have hGk : (l.map gkOf)[k]? = some (gkOf g') := by rw [List.getElem?_map, hg']; rfl
        obtain ⟨m0, m1, m2, m3, m4⟩ := Hok.out.gb _ (List.mem_of_getElem? hGk)
        have m0 : 0 ≤ g'.mn := m0
        have m1 : g'.mn ≤ g'.mx := m1
        have m3 : g'.mx ≤ 200 := m3
        have m4 : g'.nm.size ≤ 300 := m4
        obtain ⟨nn, hnn⟩ : ∃ nn : Nat, g'.mn = (nn : Int) := ⟨g'.mn.toNat, by omega⟩
        have hnb : nn ≤ 200 := by omega
        have hkl : k < (l.map gkOf).length := lt_at hGk
        have hpk : (CS.at (l.map gkOf) d k).P[k]? = some pl0 := at_pool hkl
        have hPl : (CS.at (l.map gkOf) d k).P.length = N := by
          show ((((l.map gkOf).take k).map plN) ++ ((l.map gkOf).drop k).map fun _ => pl0).length = N
          rw [List.length_append, List.length_map, List.length_map, List.length_take, List.length_drop, List.length_map, HN.out]
          omega
        have hLl : (CS.at (l.map gkOf) d k).L.length ≤ 1000000 := by
          have h9 := insN_len ((l.map gkOf).take k) fun g hg => by
            obtain ⟨q0, q1, q2, q3, _⟩ := Hok.out.gb g (List.mem_of_mem_take hg)
            omega
          rw [List.length_take] at h9
          show (((l.map gkOf).take k).flatMap insN).length ≤ _
          omega
        have Hpk := Lib.hid hpk
        have HPl := Lib.hid hPl
        have HLl := Lib.hid hLl
        have Hnx := Lib.hid (show (CS.at (l.map gkOf) d k).req k (gkOf g') pl0 ⟨emp, emp, 2, 0, 0⟩ nn = CS.at (l.map gkOf) d (k + 1) from by
          have h9 := at_next (dl := d) hGk m0
          rw [show (gkOf g').mn.toNat = nn from by show g'.mn.toNat = nn; omega] at h9
          exact h9)
        obtain ⟨gb, go, hga, hgb, hgc⟩ := HF.out (by rw [HN.out]; omega)
        have x1 : wr.cell? ⟨gb, go + k * 15 + 1, none⟩ = some (.int .i64 nn) := by rw [← hnn]; exact (hT.bl.cell (p := ⟨gb, go + k * 15 + 1, none⟩) hgb).trans (hgc k g' hg' 1 (by decide))
        have X0 := Lib.hid (show ∀ V : World, Below w.heap.size w V → V.cell? ⟨gb, go + k * 15 + 1, none⟩ = some (.int .i64 nn) from fun V hV => by rw [← hnn]; exact (hV.cell (p := ⟨gb, go + k * 15 + 1, none⟩) hgb).trans (hgc k g' hg' 1 (by decide)))
        obtain ⟨ta, tk, te, hTa⟩ := hT.tAt
        obtain ⟨tq, te2, tl, td⟩ := hTa (by rw [hPl]; omega)
        have tqe : w1.heap.size + 1 = tq := by rw [te2] at te; injection te with e1; injection e1 with e1; injection e1
        have t1 : wr.cell? ⟨w1.heap.size + 1, k, none⟩ = some (.int .i64 0) := by rw [tqe]; exact td k pl0 hpk
        have tl1 : w1.heap.size + 1 < wr.heap.size := by rw [tqe]; exact tl
        have hto := hT.to
        rw [hPl] at hto
        have tf := hto.frozenAt k
        clear hto
        have b1 := hT.row.cell 1
        dsimp only [List.getElem?_cons_zero, List.getElem?_cons_succ] at b1
        have hbl := hT.row.lt
        have hgbw : gb < wr.heap.size := Nat.lt_of_lt_of_le hgb hT.bl.size
        have hki : (k : Int) < (N : Int) := by omega
        have hk0 : (0 : Int) ≤ (k : Int) := by omega
        subst hga
        clear hg' hGk hnn hkl hpk hPl hLl hgc te te2 tqe td hTa hT m1 m2 m3 tl
        go_wp2
        have hcH := held_cell
        refine region_rel_tail 11 (by kernel_rfl) (by kernel_rfl) (by kernel_rfl) ?_
        dsimp only [List.take, List.drop]
        repeat
          ((with_reducible refine relStep (fun K hK => ?_))
           (have HK := Lib.hid hK)
           clear hK
           (apply relInl
            · intro r n hf
              have Hf := Lib.hid hf
              clear hf
              (first
                | (fail)
                | (unfold relAt
                   go_simp
                   (first | (refine relUpon_val ?_ (Below.refl _ _); exact rfl) | exact rfl | (refine relUpon_enter ?_; fail))))
            (simp only [Act.put, List.setIfInBounds_toArray, List.set_cons_zero, List.set_cons_succ])
            (with_reducible refine HK.out _ _ ?_)
            clear HK K))
        refine relNil ?_
        intro r6 n6 hx6
        clear hcH
        (try simp only [List.nil_append, List.cons_append, List.mem_cons, List.not_mem_nil, or_false, forall_eq_or_imp, forall_eq, false_implies, implies_true] at hx6)
        obtain ⟨w6, hb6⟩ := n6
        (try dsimp only)
        obtain ⟨hc6, hf6⟩ := bcell hb6
        have hz6 := hb6.size
        (try simp at hz6)
        have HT6 := Lib.hid (HTr.out.below hb6)
        have u1 : w6.cell? ⟨w1.heap.size + 1, k, none⟩ = _ := (hc6 (w1.heap.size + 1) k tl1).trans t1
        have hto := HT6.out.to
        rw [HPl.out] at hto
        have uf := hto.frozenAt k
        clear hc6 hf6 hb6 t1 tf b1 x1 hto
        go_wp2
        obtain ⟨W6, hW6⟩ : ∃ W6, W6 = w6.setCell ⟨w1.heap.size + 1, k, none⟩ (.int .i64 nn) := ⟨_, rfl⟩
        rw [← hW6]
        have HT7 := Lib.hid (show RT w W6 (w1.heap.size + 1 + 1 + 1) (some ⟨gb, go, none⟩) ka l ((CS.at (l.map gkOf) d k).part k (gkOf g') pl0 ⟨emp, emp, 2, 0, 0⟩ nn 0) (.slice (some ⟨w1.heap.size + 1, 0, none⟩) N N) (.slice (some ⟨w1.heap.size, 0, none⟩) N N) (.slice (some ⟨w1.heap.size + 1 + 1, 0, none⟩) N N) v from by
          have h9 := HT6.out.tset rfl (nn : Int) Hpk.out
          rw [part_zero, hW6]
          rw [show pl0.t + (nn : Int) = (nn : Int) from Int.zero_add _]
          exact h9)
        obtain ⟨w5, h5⟩ : ∃ w5, w5 = wr := ⟨_, rfl⟩
        subst h5
        clear hW6 u1 uf
        go_loopw [8] (fun i wr => ∃ (q : Nat) (v : Value), q ≤ nn ∧ i = .int .i64 q ∧ RT w wr (w1.heap.size + 1 + 1 + 1) (some ⟨gb, go, none⟩) ka l ((CS.at (l.map gkOf) d k).part k (gkOf g') pl0 ⟨emp, emp, 2, 0, 0⟩ nn q) (.slice (some ⟨w1.heap.size + 1, 0, none⟩) N N) (.slice (some ⟨w1.heap.size, 0, none⟩) N N) (.slice (some ⟨w1.heap.size + 1 + 1, 0, none⟩) N N) v) (fun i _ => nn - (intOf i).toNat)
        case atStart => exact ⟨0, _, Nat.zero_le _, rfl, HT7.out⟩
        case round =>
          obtain ⟨q, v5, hq, rfl, hT5⟩ := hrel
          have x1 := X0.out wr hT5.bl
          have HT5 := Lib.hid hT5
          by_cases hlq : q < nn
          · have hPk : ((CS.at (l.map gkOf) d k).part k (gkOf g') pl0 ⟨emp, emp, 2, 0, 0⟩ nn q).P.length = ((CS.at (l.map gkOf) d k).part k (gkOf g') pl0 ⟨emp, emp, 2, 0, 0⟩ nn q).G.length := by
              show ((CS.at (l.map gkOf) d k).P.set k _).length = (l.map gkOf).length
              rw [List.length_set, HPl.out, List.length_map, HN.out]
            have hLk : ((CS.at (l.map gkOf) d k).part k (gkOf g') pl0 ⟨emp, emp, 2, 0, 0⟩ nn q).L.length ≤ 10000000 := by
              show ((CS.at (l.map gkOf) d k).L ++ moreI _ _ _ q).length ≤ _
              rw [List.length_append, moreI_len]
              have := HLl.out
              omega
            have HMo := Lib.hid (show Calls Tryz.prog 24 #[.pointer (some ⟨w1.heap.size + 1 + 1 + 1, 0, none⟩), .int .i64 k, .int .i64 2, .int .i64 0] wr fun e w' => e = .returned (.tuple #[]) ∧ ∃ v', RT w w' (w1.heap.size + 1 + 1 + 1) (some ⟨gb, go, none⟩) ka l ((CS.at (l.map gkOf) d k).part k (gkOf g') pl0 ⟨emp, emp, 2, 0, 0⟩ nn (q + 1)) (.slice (some ⟨w1.heap.size + 1, 0, none⟩) N N) (.slice (some ⟨w1.heap.size, 0, none⟩) N N) (.slice (some ⟨w1.heap.size + 1 + 1, 0, none⟩) N N) v' from by
              have h9 := rmore_any w (w1.heap.size + 1 + 1 + 1) _ ka l _ _ _ _ v5 k g' _ 2 0 wr hT5 hPk Hg'.out (part_pool (by rw [HPl.out]; exact hlt)) m4 ⟨by show 0 ≤ (0 : Int) + (q : Int); omega, by show (0 : Int) + (q : Int) ≤ _; omega⟩ hLk (by rw [HN.out]; exact h16)
              have h8 : ((CS.at (l.map gkOf) d k).part k (gkOf g') pl0 ⟨emp, emp, 2, 0, 0⟩ nn q).mor k (gkOf g') ⟨pl0.t + nn, pl0.la + q, pl0.br⟩ 2 0 = (CS.at (l.map gkOf) d k).part k (gkOf g') pl0 ⟨emp, emp, 2, 0, 0⟩ nn (q + 1) := mor_part (CS.at (l.map gkOf) d k) k (gkOf g') pl0 nn q 2 0
              rw [h8] at h9
              refine h9.mono ?_
              rintro e w' ⟨rfl, v', hh, _⟩
              exact ⟨rfl, v', hh⟩)
            clear hT5 hPk hLk
            go_wp2_with (go_at_call 24; (with_reducible refine HMo.out.mono ?_); rintro e w9 ⟨rfl, v', hT9⟩; have HT9 := Lib.hid hT9; clear hT9)
            go_roundw
            case rel => exact ⟨q + 1, v', by omega, by go_num, HT9.out⟩
            case measure => simp [intOf]; omega
          · obtain rfl : q = nn := by omega
            have HTe := Lib.hid (Hnx.out ▸ (show RT w wr (w1.heap.size + 1 + 1 + 1) (some ⟨gb, go, none⟩) ka l ((CS.at (l.map gkOf) d k).req k (gkOf g') pl0 ⟨emp, emp, 2, 0, 0⟩ q) (.slice (some ⟨w1.heap.size + 1, 0, none⟩) N N) (.slice (some ⟨w1.heap.size, 0, none⟩) N N) (.slice (some ⟨w1.heap.size + 1 + 1, 0, none⟩) N N) v5 from hT5))
            clear hT5
            go_wp2
            go_roundw
            case rel => exact ⟨k + 1, v5, by omega, by go_num, HTe.out⟩
            case measure => simp [intOf]; omega
      · obtain rfl : k = N := by omega
        have hall : CS.at (l.map gkOf) d k = CS.new (l.map gkOf) d := at_all _ _ (by rw [List.length_map, HN.out]; exact Nat.le_refl _)
        rw [hall] at HTr
        clear hT hall
        go_wp2
        go_ret2
        exact ⟨⟨_, _, _, _, _, rfl, HTr.out⟩, HTr.out.bl⟩
  · skip
    generalize hW : World.drew _ = W
    have hBX : Blk W (w1.heap.size + 1 + 1 + 1) 65 [.slice a N ka, .slice (some ⟨w1.heap.size + 1 + 1, 0, none⟩) N N, .slice (some ⟨w1.heap.size, 0, none⟩) N N, .slice (some ⟨w1.heap.size + 1, 0, none⟩) N N, .slice none 0 0, .int .i64 d, .int .i64 0, .int .i64 0] := by
      rw [← hW]
      exact heap_new _ _ _ (by simp)
    have hBT : W.heap[w1.heap.size + 1 + 1]? = some (.cells (madeCells #[.int .i64 0] N) 3) := by
      rw [← hW]
      first | (refine heap_old _ (heap_new _ _ _ ?_); (simp; done)) | (refine heap_old _ (heap_old _ (heap_new _ _ _ ?_)); (simp; done)) | (refine heap_old _ (heap_old _ (heap_old _ (heap_new _ _ _ ?_))); rfl)
    have hBL : W.heap[w1.heap.size]? = some (.cells (madeCells #[.int .i64 0] N) 3) := by
      rw [← hW]
      first | (refine heap_old _ (heap_new _ _ _ ?_); (simp; done)) | (refine heap_old _ (heap_old _ (heap_new _ _ _ ?_)); (simp; done)) | (refine heap_old _ (heap_old _ (heap_old _ (heap_new _ _ _ ?_))); rfl)
    have hBB : W.heap[w1.heap.size + 1]? = some (.cells (madeCells #[.bool false] N) 4) := by
      rw [← hW]
      first | (refine heap_old _ (heap_new _ _ _ ?_); (simp; done)) | (refine heap_old _ (heap_old _ (heap_new _ _ _ ?_)); (simp; done)) | (refine heap_old _ (heap_old _ (heap_old _ (heap_new _ _ _ ?_))); rfl)
    have HBW := Lib.hid (show Below w1.heap.size w1 W from by rw [← hW]; (repeat' (first | with_reducible exact Below.refl _ _ | with_reducible assumption | with_reducible refine Below.drew ?_ | with_reducible refine below_drewN' ?_ _ | with_reducible refine Below.alloc ?_ ?_ _ | with_reducible refine Below.setCell ?_ ?_ _ | with_reducible refine below_step (by assumption) ?_ ?_ | omega | (simp; done) | (simp; omega))))
    clear hW
    have hPs : (CS.at (l.map gkOf) d 0).P = List.replicate N pl0 := by
      rw [at_zero]
      show (l.map gkOf).map (fun _ => pl0) = _
      rw [List.map_const', List.length_map, HN.out]
    have hz1 := HB1.out.size
    have HR0 := Lib.hid (show RT w W (w1.heap.size + 1 + 1 + 1) a ka l (CS.at (l.map gkOf) d 0) (.slice (some ⟨w1.heap.size + 1 + 1, 0, none⟩) N N) (.slice (some ⟨w1.heap.size, 0, none⟩) N N) (.slice (some ⟨w1.heap.size + 1, 0, none⟩) N N) (.slice none 0 0) from by
      refine ⟨by rw [HN.out]; exact hBX, HF.out, ?_, ?_, ?_, World.ownsRow_nil _ _ _ _, fun z h1 h2 => ?_, rfl, by omega, HB1.out.trans (HBW.out.mono hz1)⟩
      · rw [hPs, List.length_replicate]; exact own_ints _ N (w1.heap.size + 1 + 1) W (by omega) (by omega) hBT
      · rw [hPs, List.length_replicate, repl_lt]; exact own_ints _ N (w1.heap.size) W (by omega) (by omega) hBL
      · rw [hPs, List.length_replicate]; exact own_bools _ N (w1.heap.size + 1) W (by omega) (by omega) hBB
      · have e1 := Option.some.inj h1
        have e2 := Option.some.inj h2
        dsimp only at e1 e2
        omega)
    clear hPs hBT hBL hBB
    go_wp2
    have HRT0 := Lib.hid HR0.out
    clear HR0 hBX HBW
    go_loopw [7, 8] (fun i _ wr => ∃ (k : Nat) (v : Value), k ≤ N ∧ i = .int .i64 k ∧ RT w wr (w1.heap.size + 1 + 1 + 1) a ka l (CS.at (l.map gkOf) d k) (.slice (some ⟨w1.heap.size + 1 + 1, 0, none⟩) N N) (.slice (some ⟨w1.heap.size, 0, none⟩) N N) (.slice (some ⟨w1.heap.size + 1, 0, none⟩) N N) v) (fun i _ _ => N - (intOf i).toNat)
    case atStart => exact ⟨0, _, Nat.zero_le _, rfl, HRT0.out⟩
    case round =>
      clear HRT0
      obtain ⟨k, v, hk, rfl, hT⟩ := hrel
      have HTr := Lib.hid hT
      by_cases hlt : k < N
      · obtain ⟨g', hg'⟩ := mem_at (l := l) (k := k) (by rw [HN.out]; exact hlt)
        have Hg' := Lib.hid hg'
        have hGk : (l.map gkOf)[k]? = some (gkOf g') := by rw [List.getElem?_map, hg']; rfl
        obtain ⟨m0, m1, m2, m3, m4⟩ := Hok.out.gb _ (List.mem_of_getElem? hGk)
        have m0 : 0 ≤ g'.mn := m0
        have m1 : g'.mn ≤ g'.mx := m1
        have m3 : g'.mx ≤ 200 := m3
        have m4 : g'.nm.size ≤ 300 := m4
        obtain ⟨nn, hnn⟩ : ∃ nn : Nat, g'.mn = (nn : Int) := ⟨g'.mn.toNat, by omega⟩
        have hnb : nn ≤ 200 := by omega
        have hkl : k < (l.map gkOf).length := lt_at hGk
        have hpk : (CS.at (l.map gkOf) d k).P[k]? = some pl0 := at_pool hkl
        have hPl : (CS.at (l.map gkOf) d k).P.length = N := by
          show ((((l.map gkOf).take k).map plN) ++ ((l.map gkOf).drop k).map fun _ => pl0).length = N
          rw [List.length_append, List.length_map, List.length_map, List.length_take, List.length_drop, List.length_map, HN.out]
          omega
        have hLl : (CS.at (l.map gkOf) d k).L.length ≤ 1000000 := by
          have h9 := insN_len ((l.map gkOf).take k) fun g hg => by
            obtain ⟨q0, q1, q2, q3, _⟩ := Hok.out.gb g (List.mem_of_mem_take hg)
            omega
          rw [List.length_take] at h9
          show (((l.map gkOf).take k).flatMap insN).length ≤ _
          omega
        have Hpk := Lib.hid hpk
        have HPl := Lib.hid hPl
        have HLl := Lib.hid hLl
        have Hnx := Lib.hid (show (CS.at (l.map gkOf) d k).req k (gkOf g') pl0 ⟨emp, emp, 2, 0, 0⟩ nn = CS.at (l.map gkOf) d (k + 1) from by
          have h9 := at_next (dl := d) hGk m0
          rw [show (gkOf g').mn.toNat = nn from by show g'.mn.toNat = nn; omega] at h9
          exact h9)
        obtain ⟨gb, go, hga, hgb, hgc⟩ := HF.out (by rw [HN.out]; omega)
        have x1 : wr.cell? ⟨gb, go + k * 15 + 1, none⟩ = some (.int .i64 nn) := by rw [← hnn]; exact (hT.bl.cell (p := ⟨gb, go + k * 15 + 1, none⟩) hgb).trans (hgc k g' hg' 1 (by decide))
        have X0 := Lib.hid (show ∀ V : World, Below w.heap.size w V → V.cell? ⟨gb, go + k * 15 + 1, none⟩ = some (.int .i64 nn) from fun V hV => by rw [← hnn]; exact (hV.cell (p := ⟨gb, go + k * 15 + 1, none⟩) hgb).trans (hgc k g' hg' 1 (by decide)))
        obtain ⟨ta, tk, te, hTa⟩ := hT.tAt
        obtain ⟨tq, te2, tl, td⟩ := hTa (by rw [hPl]; omega)
        have tqe : w1.heap.size + 1 + 1 = tq := by rw [te2] at te; injection te with e1; injection e1 with e1; injection e1
        have t1 : wr.cell? ⟨w1.heap.size + 1 + 1, k, none⟩ = some (.int .i64 0) := by rw [tqe]; exact td k pl0 hpk
        have tl1 : w1.heap.size + 1 + 1 < wr.heap.size := by rw [tqe]; exact tl
        have hto := hT.to
        rw [hPl] at hto
        have tf := hto.frozenAt k
        clear hto
        have b1 := hT.row.cell 1
        dsimp only [List.getElem?_cons_zero, List.getElem?_cons_succ] at b1
        have hbl := hT.row.lt
        have hgbw : gb < wr.heap.size := Nat.lt_of_lt_of_le hgb hT.bl.size
        have hki : (k : Int) < (N : Int) := by omega
        have hk0 : (0 : Int) ≤ (k : Int) := by omega
        subst hga
        clear hg' hGk hnn hkl hpk hPl hLl hgc te te2 tqe td hTa hT m1 m2 m3 tl
        go_wp2
        have hcH := held_cell
        refine region_rel_tail 11 (by kernel_rfl) (by kernel_rfl) (by kernel_rfl) ?_
        dsimp only [List.take, List.drop]
        repeat
          ((with_reducible refine relStep (fun K hK => ?_))
           (have HK := Lib.hid hK)
           clear hK
           (apply relInl
            · intro r n hf
              have Hf := Lib.hid hf
              clear hf
              (first
                | (fail)
                | (unfold relAt
                   go_simp
                   (first | (refine relUpon_val ?_ (Below.refl _ _); exact rfl) | exact rfl | (refine relUpon_enter ?_; fail))))
            (simp only [Act.put, List.setIfInBounds_toArray, List.set_cons_zero, List.set_cons_succ])
            (with_reducible refine HK.out _ _ ?_)
            clear HK K))
        refine relNil ?_
        intro r6 n6 hx6
        clear hcH
        (try simp only [List.nil_append, List.cons_append, List.mem_cons, List.not_mem_nil, or_false, forall_eq_or_imp, forall_eq, false_implies, implies_true] at hx6)
        obtain ⟨w6, hb6⟩ := n6
        (try dsimp only)
        obtain ⟨hc6, hf6⟩ := bcell hb6
        have hz6 := hb6.size
        (try simp at hz6)
        have HT6 := Lib.hid (HTr.out.below hb6)
        have u1 : w6.cell? ⟨w1.heap.size + 1 + 1, k, none⟩ = _ := (hc6 (w1.heap.size + 1 + 1) k tl1).trans t1
        have hto := HT6.out.to
        rw [HPl.out] at hto
        have uf := hto.frozenAt k
        clear hc6 hf6 hb6 t1 tf b1 x1 hto
        go_wp2
        obtain ⟨W6, hW6⟩ : ∃ W6, W6 = w6.setCell ⟨w1.heap.size + 1 + 1, k, none⟩ (.int .i64 nn) := ⟨_, rfl⟩
        rw [← hW6]
        have HT7 := Lib.hid (show RT w W6 (w1.heap.size + 1 + 1 + 1) (some ⟨gb, go, none⟩) ka l ((CS.at (l.map gkOf) d k).part k (gkOf g') pl0 ⟨emp, emp, 2, 0, 0⟩ nn 0) (.slice (some ⟨w1.heap.size + 1 + 1, 0, none⟩) N N) (.slice (some ⟨w1.heap.size, 0, none⟩) N N) (.slice (some ⟨w1.heap.size + 1, 0, none⟩) N N) v from by
          have h9 := HT6.out.tset rfl (nn : Int) Hpk.out
          rw [part_zero, hW6]
          rw [show pl0.t + (nn : Int) = (nn : Int) from Int.zero_add _]
          exact h9)
        obtain ⟨w5, h5⟩ : ∃ w5, w5 = wr := ⟨_, rfl⟩
        subst h5
        clear hW6 u1 uf
        go_loopw [8] (fun i wr => ∃ (q : Nat) (v : Value), q ≤ nn ∧ i = .int .i64 q ∧ RT w wr (w1.heap.size + 1 + 1 + 1) (some ⟨gb, go, none⟩) ka l ((CS.at (l.map gkOf) d k).part k (gkOf g') pl0 ⟨emp, emp, 2, 0, 0⟩ nn q) (.slice (some ⟨w1.heap.size + 1 + 1, 0, none⟩) N N) (.slice (some ⟨w1.heap.size, 0, none⟩) N N) (.slice (some ⟨w1.heap.size + 1, 0, none⟩) N N) v) (fun i _ => nn - (intOf i).toNat)
        case atStart => exact ⟨0, _, Nat.zero_le _, rfl, HT7.out⟩
        case round =>
          obtain ⟨q, v5, hq, rfl, hT5⟩ := hrel
          have x1 := X0.out wr hT5.bl
          have HT5 := Lib.hid hT5
          by_cases hlq : q < nn
          · have hPk : ((CS.at (l.map gkOf) d k).part k (gkOf g') pl0 ⟨emp, emp, 2, 0, 0⟩ nn q).P.length = ((CS.at (l.map gkOf) d k).part k (gkOf g') pl0 ⟨emp, emp, 2, 0, 0⟩ nn q).G.length := by
              show ((CS.at (l.map gkOf) d k).P.set k _).length = (l.map gkOf).length
              rw [List.length_set, HPl.out, List.length_map, HN.out]
            have hLk : ((CS.at (l.map gkOf) d k).part k (gkOf g') pl0 ⟨emp, emp, 2, 0, 0⟩ nn q).L.length ≤ 10000000 := by
              show ((CS.at (l.map gkOf) d k).L ++ moreI _ _ _ q).length ≤ _
              rw [List.length_append, moreI_len]
              have := HLl.out
              omega
            have HMo := Lib.hid (show Calls Tryz.prog 24 #[.pointer (some ⟨w1.heap.size + 1 + 1 + 1, 0, none⟩), .int .i64 k, .int .i64 2, .int .i64 0] wr fun e w' => e = .returned (.tuple #[]) ∧ ∃ v', RT w w' (w1.heap.size + 1 + 1 + 1) (some ⟨gb, go, none⟩) ka l ((CS.at (l.map gkOf) d k).part k (gkOf g') pl0 ⟨emp, emp, 2, 0, 0⟩ nn (q + 1)) (.slice (some ⟨w1.heap.size + 1 + 1, 0, none⟩) N N) (.slice (some ⟨w1.heap.size, 0, none⟩) N N) (.slice (some ⟨w1.heap.size + 1, 0, none⟩) N N) v' from by
              have h9 := rmore_any w (w1.heap.size + 1 + 1 + 1) _ ka l _ _ _ _ v5 k g' _ 2 0 wr hT5 hPk Hg'.out (part_pool (by rw [HPl.out]; exact hlt)) m4 ⟨by show 0 ≤ (0 : Int) + (q : Int); omega, by show (0 : Int) + (q : Int) ≤ _; omega⟩ hLk (by rw [HN.out]; exact h16)
              have h8 : ((CS.at (l.map gkOf) d k).part k (gkOf g') pl0 ⟨emp, emp, 2, 0, 0⟩ nn q).mor k (gkOf g') ⟨pl0.t + nn, pl0.la + q, pl0.br⟩ 2 0 = (CS.at (l.map gkOf) d k).part k (gkOf g') pl0 ⟨emp, emp, 2, 0, 0⟩ nn (q + 1) := mor_part (CS.at (l.map gkOf) d k) k (gkOf g') pl0 nn q 2 0
              rw [h8] at h9
              refine h9.mono ?_
              rintro e w' ⟨rfl, v', hh, _⟩
              exact ⟨rfl, v', hh⟩)
            clear hT5 hPk hLk
            go_wp2_with (go_at_call 24; (with_reducible refine HMo.out.mono ?_); rintro e w9 ⟨rfl, v', hT9⟩; have HT9 := Lib.hid hT9; clear hT9)
            go_roundw
            case rel => exact ⟨q + 1, v', by omega, by go_num, HT9.out⟩
            case measure => simp [intOf]; omega
          · obtain rfl : q = nn := by omega
            have HTe := Lib.hid (Hnx.out ▸ (show RT w wr (w1.heap.size + 1 + 1 + 1) (some ⟨gb, go, none⟩) ka l ((CS.at (l.map gkOf) d k).req k (gkOf g') pl0 ⟨emp, emp, 2, 0, 0⟩ q) (.slice (some ⟨w1.heap.size + 1 + 1, 0, none⟩) N N) (.slice (some ⟨w1.heap.size, 0, none⟩) N N) (.slice (some ⟨w1.heap.size + 1, 0, none⟩) N N) v5 from hT5))
            clear hT5
            go_wp2
            go_roundw
            case rel => exact ⟨k + 1, v5, by omega, by go_num, HTe.out⟩
            case measure => simp [intOf]; omega
      · obtain rfl : k = N := by omega
        have hall : CS.at (l.map gkOf) d k = CS.new (l.map gkOf) d := at_all _ _ (by rw [List.length_map, HN.out]; exact Nat.le_refl _)
        rw [hall] at HTr
        clear hT hall
        go_wp2
        go_ret2
        exact ⟨⟨_, _, _, _, _, rfl, HTr.out⟩, HTr.out.bl⟩
  · skip
    generalize hW : World.drew _ = W
    have hBX : Blk W (w1.heap.size + 1 + 1 + 1) 65 [.slice a N ka, .slice (some ⟨w1.heap.size + 1, 0, none⟩) N N, .slice (some ⟨w1.heap.size + 1 + 1, 0, none⟩) N N, .slice (some ⟨w1.heap.size, 0, none⟩) N N, .slice none 0 0, .int .i64 d, .int .i64 0, .int .i64 0] := by
      rw [← hW]
      exact heap_new _ _ _ (by simp)
    have hBT : W.heap[w1.heap.size + 1]? = some (.cells (madeCells #[.int .i64 0] N) 3) := by
      rw [← hW]
      first | (refine heap_old _ (heap_new _ _ _ ?_); (simp; done)) | (refine heap_old _ (heap_old _ (heap_new _ _ _ ?_)); (simp; done)) | (refine heap_old _ (heap_old _ (heap_old _ (heap_new _ _ _ ?_))); rfl)
    have hBL : W.heap[w1.heap.size + 1 + 1]? = some (.cells (madeCells #[.int .i64 0] N) 3) := by
      rw [← hW]
      first | (refine heap_old _ (heap_new _ _ _ ?_); (simp; done)) | (refine heap_old _ (heap_old _ (heap_new _ _ _ ?_)); (simp; done)) | (refine heap_old _ (heap_old _ (heap_old _ (heap_new _ _ _ ?_))); rfl)
    have hBB : W.heap[w1.heap.size]? = some (.cells (madeCells #[.bool false] N) 4) := by
      rw [← hW]
      first | (refine heap_old _ (heap_new _ _ _ ?_); (simp; done)) | (refine heap_old _ (heap_old _ (heap_new _ _ _ ?_)); (simp; done)) | (refine heap_old _ (heap_old _ (heap_old _ (heap_new _ _ _ ?_))); rfl)
    have HBW := Lib.hid (show Below w1.heap.size w1 W from by rw [← hW]; (repeat' (first | with_reducible exact Below.refl _ _ | with_reducible assumption | with_reducible refine Below.drew ?_ | with_reducible refine below_drewN' ?_ _ | with_reducible refine Below.alloc ?_ ?_ _ | with_reducible refine Below.setCell ?_ ?_ _ | with_reducible refine below_step (by assumption) ?_ ?_ | omega | (simp; done) | (simp; omega))))
    clear hW
    have hPs : (CS.at (l.map gkOf) d 0).P = List.replicate N pl0 := by
      rw [at_zero]
      show (l.map gkOf).map (fun _ => pl0) = _
      rw [List.map_const', List.length_map, HN.out]
    have hz1 := HB1.out.size
    have HR0 := Lib.hid (show RT w W (w1.heap.size + 1 + 1 + 1) a ka l (CS.at (l.map gkOf) d 0) (.slice (some ⟨w1.heap.size + 1, 0, none⟩) N N) (.slice (some ⟨w1.heap.size + 1 + 1, 0, none⟩) N N) (.slice (some ⟨w1.heap.size, 0, none⟩) N N) (.slice none 0 0) from by
      refine ⟨by rw [HN.out]; exact hBX, HF.out, ?_, ?_, ?_, World.ownsRow_nil _ _ _ _, fun z h1 h2 => ?_, rfl, by omega, HB1.out.trans (HBW.out.mono hz1)⟩
      · rw [hPs, List.length_replicate]; exact own_ints _ N (w1.heap.size + 1) W (by omega) (by omega) hBT
      · rw [hPs, List.length_replicate, repl_lt]; exact own_ints _ N (w1.heap.size + 1 + 1) W (by omega) (by omega) hBL
      · rw [hPs, List.length_replicate]; exact own_bools _ N (w1.heap.size) W (by omega) (by omega) hBB
      · have e1 := Option.some.inj h1
        have e2 := Option.some.inj h2
        dsimp only at e1 e2
        omega)
    clear hPs hBT hBL hBB
    go_wp2
    have HRT0 := Lib.hid HR0.out
    clear HR0 hBX HBW
    go_loopw [7, 8] (fun i _ wr => ∃ (k : Nat) (v : Value), k ≤ N ∧ i = .int .i64 k ∧ RT w wr (w1.heap.size + 1 + 1 + 1) a ka l (CS.at (l.map gkOf) d k) (.slice (some ⟨w1.heap.size + 1, 0, none⟩) N N) (.slice (some ⟨w1.heap.size + 1 + 1, 0, none⟩) N N) (.slice (some ⟨w1.heap.size, 0, none⟩) N N) v) (fun i _ _ => N - (intOf i).toNat)
    case atStart => exact ⟨0, _, Nat.zero_le _, rfl, HRT0.out⟩
    case round =>
      clear HRT0
      obtain ⟨k, v, hk, rfl, hT⟩ := hrel
      have HTr := Lib.hid hT
      by_cases hlt : k < N
      · obtain ⟨g', hg'⟩ := mem_at (l := l) (k := k) (by rw [HN.out]; exact hlt)
        have Hg' := Lib.hid hg'
        have hGk : (l.map gkOf)[k]? = some (gkOf g') := by rw [List.getElem?_map, hg']; rfl
        obtain ⟨m0, m1, m2, m3, m4⟩ := Hok.out.gb _ (List.mem_of_getElem? hGk)
        have m0 : 0 ≤ g'.mn := m0
        have m1 : g'.mn ≤ g'.mx := m1
        have m3 : g'.mx ≤ 200 := m3
        have m4 : g'.nm.size ≤ 300 := m4
        obtain ⟨nn, hnn⟩ : ∃ nn : Nat, g'.mn = (nn : Int) := ⟨g'.mn.toNat, by omega⟩
        have hnb : nn ≤ 200 := by omega
        have hkl : k < (l.map gkOf).length := lt_at hGk
        have hpk : (CS.at (l.map gkOf) d k).P[k]? = some pl0 := at_pool hkl
        have hPl : (CS.at (l.map gkOf) d k).P.length = N := by
          show ((((l.map gkOf).take k).map plN) ++ ((l.map gkOf).drop k).map fun _ => pl0).length = N
          rw [List.length_append, List.length_map, List.length_map, List.length_take, List.length_drop, List.length_map, HN.out]
          omega
        have hLl : (CS.at (l.map gkOf) d k).L.length ≤ 1000000 := by
          have h9 := insN_len ((l.map gkOf).take k) fun g hg => by
            obtain ⟨q0, q1, q2, q3, _⟩ := Hok.out.gb g (List.mem_of_mem_take hg)
            omega
          rw [List.length_take] at h9
          show (((l.map gkOf).take k).flatMap insN).length ≤ _
          omega
        have Hpk := Lib.hid hpk
        have HPl := Lib.hid hPl
        have HLl := Lib.hid hLl
        have Hnx := Lib.hid (show (CS.at (l.map gkOf) d k).req k (gkOf g') pl0 ⟨emp, emp, 2, 0, 0⟩ nn = CS.at (l.map gkOf) d (k + 1) from by
          have h9 := at_next (dl := d) hGk m0
          rw [show (gkOf g').mn.toNat = nn from by show g'.mn.toNat = nn; omega] at h9
          exact h9)
        obtain ⟨gb, go, hga, hgb, hgc⟩ := HF.out (by rw [HN.out]; omega)
        have x1 : wr.cell? ⟨gb, go + k * 15 + 1, none⟩ = some (.int .i64 nn) := by rw [← hnn]; exact (hT.bl.cell (p := ⟨gb, go + k * 15 + 1, none⟩) hgb).trans (hgc k g' hg' 1 (by decide))
        have X0 := Lib.hid (show ∀ V : World, Below w.heap.size w V → V.cell? ⟨gb, go + k * 15 + 1, none⟩ = some (.int .i64 nn) from fun V hV => by rw [← hnn]; exact (hV.cell (p := ⟨gb, go + k * 15 + 1, none⟩) hgb).trans (hgc k g' hg' 1 (by decide)))
        obtain ⟨ta, tk, te, hTa⟩ := hT.tAt
        obtain ⟨tq, te2, tl, td⟩ := hTa (by rw [hPl]; omega)
        have tqe : w1.heap.size + 1 = tq := by rw [te2] at te; injection te with e1; injection e1 with e1; injection e1
        have t1 : wr.cell? ⟨w1.heap.size + 1, k, none⟩ = some (.int .i64 0) := by rw [tqe]; exact td k pl0 hpk
        have tl1 : w1.heap.size + 1 < wr.heap.size := by rw [tqe]; exact tl
        have hto := hT.to
        rw [hPl] at hto
        have tf := hto.frozenAt k
        clear hto
        have b1 := hT.row.cell 1
        dsimp only [List.getElem?_cons_zero, List.getElem?_cons_succ] at b1
        have hbl := hT.row.lt
        have hgbw : gb < wr.heap.size := Nat.lt_of_lt_of_le hgb hT.bl.size
        have hki : (k : Int) < (N : Int) := by omega
        have hk0 : (0 : Int) ≤ (k : Int) := by omega
        subst hga
        clear hg' hGk hnn hkl hpk hPl hLl hgc te te2 tqe td hTa hT m1 m2 m3 tl
        go_wp2
        have hcH := held_cell
        refine region_rel_tail 11 (by kernel_rfl) (by kernel_rfl) (by kernel_rfl) ?_
        dsimp only [List.take, List.drop]
        repeat
          ((with_reducible refine relStep (fun K hK => ?_))
           (have HK := Lib.hid hK)
           clear hK
           (apply relInl
            · intro r n hf
              have Hf := Lib.hid hf
              clear hf
              (first
                | (fail)
                | (unfold relAt
                   go_simp
                   (first | (refine relUpon_val ?_ (Below.refl _ _); exact rfl) | exact rfl | (refine relUpon_enter ?_; fail))))
            (simp only [Act.put, List.setIfInBounds_toArray, List.set_cons_zero, List.set_cons_succ])
            (with_reducible refine HK.out _ _ ?_)
            clear HK K))
        refine relNil ?_
        intro r6 n6 hx6
        clear hcH
        (try simp only [List.nil_append, List.cons_append, List.mem_cons, List.not_mem_nil, or_false, forall_eq_or_imp, forall_eq, false_implies, implies_true] at hx6)
        obtain ⟨w6, hb6⟩ := n6
        (try dsimp only)
        obtain ⟨hc6, hf6⟩ := bcell hb6
        have hz6 := hb6.size
        (try simp at hz6)
        have HT6 := Lib.hid (HTr.out.below hb6)
        have u1 : w6.cell? ⟨w1.heap.size + 1, k, none⟩ = _ := (hc6 (w1.heap.size + 1) k tl1).trans t1
        have hto := HT6.out.to
        rw [HPl.out] at hto
        have uf := hto.frozenAt k
        clear hc6 hf6 hb6 t1 tf b1 x1 hto
        go_wp2
        obtain ⟨W6, hW6⟩ : ∃ W6, W6 = w6.setCell ⟨w1.heap.size + 1, k, none⟩ (.int .i64 nn) := ⟨_, rfl⟩
        rw [← hW6]
        have HT7 := Lib.hid (show RT w W6 (w1.heap.size + 1 + 1 + 1) (some ⟨gb, go, none⟩) ka l ((CS.at (l.map gkOf) d k).part k (gkOf g') pl0 ⟨emp, emp, 2, 0, 0⟩ nn 0) (.slice (some ⟨w1.heap.size + 1, 0, none⟩) N N) (.slice (some ⟨w1.heap.size + 1 + 1, 0, none⟩) N N) (.slice (some ⟨w1.heap.size, 0, none⟩) N N) v from by
          have h9 := HT6.out.tset rfl (nn : Int) Hpk.out
          rw [part_zero, hW6]
          rw [show pl0.t + (nn : Int) = (nn : Int) from Int.zero_add _]
          exact h9)
        obtain ⟨w5, h5⟩ : ∃ w5, w5 = wr := ⟨_, rfl⟩
        subst h5
        clear hW6 u1 uf
        go_loopw [8] (fun i wr => ∃ (q : Nat) (v : Value), q ≤ nn ∧ i = .int .i64 q ∧ RT w wr (w1.heap.size + 1 + 1 + 1) (some ⟨gb, go, none⟩) ka l ((CS.at (l.map gkOf) d k).part k (gkOf g') pl0 ⟨emp, emp, 2, 0, 0⟩ nn q) (.slice (some ⟨w1.heap.size + 1, 0, none⟩) N N) (.slice (some ⟨w1.heap.size + 1 + 1, 0, none⟩) N N) (.slice (some ⟨w1.heap.size, 0, none⟩) N N) v) (fun i _ => nn - (intOf i).toNat)
        case atStart => exact ⟨0, _, Nat.zero_le _, rfl, HT7.out⟩
        case round =>
          obtain ⟨q, v5, hq, rfl, hT5⟩ := hrel
          have x1 := X0.out wr hT5.bl
          have HT5 := Lib.hid hT5
          by_cases hlq : q < nn
          · have hPk : ((CS.at (l.map gkOf) d k).part k (gkOf g') pl0 ⟨emp, emp, 2, 0, 0⟩ nn q).P.length = ((CS.at (l.map gkOf) d k).part k (gkOf g') pl0 ⟨emp, emp, 2, 0, 0⟩ nn q).G.length := by
              show ((CS.at (l.map gkOf) d k).P.set k _).length = (l.map gkOf).length
              rw [List.length_set, HPl.out, List.length_map, HN.out]
            have hLk : ((CS.at (l.map gkOf) d k).part k (gkOf g') pl0 ⟨emp, emp, 2, 0, 0⟩ nn q).L.length ≤ 10000000 := by
              show ((CS.at (l.map gkOf) d k).L ++ moreI _ _ _ q).length ≤ _
              rw [List.length_append, moreI_len]
              have := HLl.out
              omega
            have HMo := Lib.hid (show Calls Tryz.prog 24 #[.pointer (some ⟨w1.heap.size + 1 + 1 + 1, 0, none⟩), .int .i64 k, .int .i64 2, .int .i64 0] wr fun e w' => e = .returned (.tuple #[]) ∧ ∃ v', RT w w' (w1.heap.size + 1 + 1 + 1) (some ⟨gb, go, none⟩) ka l ((CS.at (l.map gkOf) d k).part k (gkOf g') pl0 ⟨emp, emp, 2, 0, 0⟩ nn (q + 1)) (.slice (some ⟨w1.heap.size + 1, 0, none⟩) N N) (.slice (some ⟨w1.heap.size + 1 + 1, 0, none⟩) N N) (.slice (some ⟨w1.heap.size, 0, none⟩) N N) v' from by
              have h9 := rmore_any w (w1.heap.size + 1 + 1 + 1) _ ka l _ _ _ _ v5 k g' _ 2 0 wr hT5 hPk Hg'.out (part_pool (by rw [HPl.out]; exact hlt)) m4 ⟨by show 0 ≤ (0 : Int) + (q : Int); omega, by show (0 : Int) + (q : Int) ≤ _; omega⟩ hLk (by rw [HN.out]; exact h16)
              have h8 : ((CS.at (l.map gkOf) d k).part k (gkOf g') pl0 ⟨emp, emp, 2, 0, 0⟩ nn q).mor k (gkOf g') ⟨pl0.t + nn, pl0.la + q, pl0.br⟩ 2 0 = (CS.at (l.map gkOf) d k).part k (gkOf g') pl0 ⟨emp, emp, 2, 0, 0⟩ nn (q + 1) := mor_part (CS.at (l.map gkOf) d k) k (gkOf g') pl0 nn q 2 0
              rw [h8] at h9
              refine h9.mono ?_
              rintro e w' ⟨rfl, v', hh, _⟩
              exact ⟨rfl, v', hh⟩)
            clear hT5 hPk hLk
            go_wp2_with (go_at_call 24; (with_reducible refine HMo.out.mono ?_); rintro e w9 ⟨rfl, v', hT9⟩; have HT9 := Lib.hid hT9; clear hT9)
            go_roundw
            case rel => exact ⟨q + 1, v', by omega, by go_num, HT9.out⟩
            case measure => simp [intOf]; omega
          · obtain rfl : q = nn := by omega
            have HTe := Lib.hid (Hnx.out ▸ (show RT w wr (w1.heap.size + 1 + 1 + 1) (some ⟨gb, go, none⟩) ka l ((CS.at (l.map gkOf) d k).req k (gkOf g') pl0 ⟨emp, emp, 2, 0, 0⟩ q) (.slice (some ⟨w1.heap.size + 1, 0, none⟩) N N) (.slice (some ⟨w1.heap.size + 1 + 1, 0, none⟩) N N) (.slice (some ⟨w1.heap.size, 0, none⟩) N N) v5 from hT5))
            clear hT5
            go_wp2
            go_roundw
            case rel => exact ⟨k + 1, v5, by omega, by go_num, HTe.out⟩
            case measure => simp [intOf]; omega
      · obtain rfl : k = N := by omega
        have hall : CS.at (l.map gkOf) d k = CS.new (l.map gkOf) d := at_all _ _ (by rw [List.length_map, HN.out]; exact Nat.le_refl _)
        rw [hall] at HTr
        clear hT hall
        go_wp2
        go_ret2
        exact ⟨⟨_, _, _, _, _, rfl, HTr.out⟩, HTr.out.bl⟩
  · skip
    generalize hW : World.drew _ = W
    have hBX : Blk W (w1.heap.size + 1 + 1 + 1) 65 [.slice a N ka, .slice (some ⟨w1.heap.size + 1 + 1, 0, none⟩) N N, .slice (some ⟨w1.heap.size + 1, 0, none⟩) N N, .slice (some ⟨w1.heap.size, 0, none⟩) N N, .slice none 0 0, .int .i64 d, .int .i64 0, .int .i64 0] := by
      rw [← hW]
      exact heap_new _ _ _ (by simp)
    have hBT : W.heap[w1.heap.size + 1 + 1]? = some (.cells (madeCells #[.int .i64 0] N) 3) := by
      rw [← hW]
      first | (refine heap_old _ (heap_new _ _ _ ?_); (simp; done)) | (refine heap_old _ (heap_old _ (heap_new _ _ _ ?_)); (simp; done)) | (refine heap_old _ (heap_old _ (heap_old _ (heap_new _ _ _ ?_))); rfl)
    have hBL : W.heap[w1.heap.size + 1]? = some (.cells (madeCells #[.int .i64 0] N) 3) := by
      rw [← hW]
      first | (refine heap_old _ (heap_new _ _ _ ?_); (simp; done)) | (refine heap_old _ (heap_old _ (heap_new _ _ _ ?_)); (simp; done)) | (refine heap_old _ (heap_old _ (heap_old _ (heap_new _ _ _ ?_))); rfl)
    have hBB : W.heap[w1.heap.size]? = some (.cells (madeCells #[.bool false] N) 4) := by
      rw [← hW]
      first | (refine heap_old _ (heap_new _ _ _ ?_); (simp; done)) | (refine heap_old _ (heap_old _ (heap_new _ _ _ ?_)); (simp; done)) | (refine heap_old _ (heap_old _ (heap_old _ (heap_new _ _ _ ?_))); rfl)
    have HBW := Lib.hid (show Below w1.heap.size w1 W from by rw [← hW]; (repeat' (first | with_reducible exact Below.refl _ _ | with_reducible assumption | with_reducible refine Below.drew ?_ | with_reducible refine below_drewN' ?_ _ | with_reducible refine Below.alloc ?_ ?_ _ | with_reducible refine Below.setCell ?_ ?_ _ | with_reducible refine below_step (by assumption) ?_ ?_ | omega | (simp; done) | (simp; omega))))
    clear hW
    have hPs : (CS.at (l.map gkOf) d 0).P = List.replicate N pl0 := by
      rw [at_zero]
      show (l.map gkOf).map (fun _ => pl0) = _
      rw [List.map_const', List.length_map, HN.out]
    have hz1 := HB1.out.size
    have HR0 := Lib.hid (show RT w W (w1.heap.size + 1 + 1 + 1) a ka l (CS.at (l.map gkOf) d 0) (.slice (some ⟨w1.heap.size + 1 + 1, 0, none⟩) N N) (.slice (some ⟨w1.heap.size + 1, 0, none⟩) N N) (.slice (some ⟨w1.heap.size, 0, none⟩) N N) (.slice none 0 0) from by
      refine ⟨by rw [HN.out]; exact hBX, HF.out, ?_, ?_, ?_, World.ownsRow_nil _ _ _ _, fun z h1 h2 => ?_, rfl, by omega, HB1.out.trans (HBW.out.mono hz1)⟩
      · rw [hPs, List.length_replicate]; exact own_ints _ N (w1.heap.size + 1 + 1) W (by omega) (by omega) hBT
      · rw [hPs, List.length_replicate, repl_lt]; exact own_ints _ N (w1.heap.size + 1) W (by omega) (by omega) hBL
      · rw [hPs, List.length_replicate]; exact own_bools _ N (w1.heap.size) W (by omega) (by omega) hBB
      · have e1 := Option.some.inj h1
        have e2 := Option.some.inj h2
        dsimp only at e1 e2
        omega)
    clear hPs hBT hBL hBB
    go_wp2
    have HRT0 := Lib.hid HR0.out
    clear HR0 hBX HBW
    go_loopw [7, 8] (fun i _ wr => ∃ (k : Nat) (v : Value), k ≤ N ∧ i = .int .i64 k ∧ RT w wr (w1.heap.size + 1 + 1 + 1) a ka l (CS.at (l.map gkOf) d k) (.slice (some ⟨w1.heap.size + 1 + 1, 0, none⟩) N N) (.slice (some ⟨w1.heap.size + 1, 0, none⟩) N N) (.slice (some ⟨w1.heap.size, 0, none⟩) N N) v) (fun i _ _ => N - (intOf i).toNat)
    case atStart => exact ⟨0, _, Nat.zero_le _, rfl, HRT0.out⟩
    case round =>
      clear HRT0
      obtain ⟨k, v, hk, rfl, hT⟩ := hrel
      have HTr := Lib.hid hT
      by_cases hlt : k < N
      · obtain ⟨g', hg'⟩ := mem_at (l := l) (k := k) (by rw [HN.out]; exact hlt)
        have Hg' := Lib.hid hg'
        have hGk : (l.map gkOf)[k]? = some (gkOf g') := by rw [List.getElem?_map, hg']; rfl
        obtain ⟨m0, m1, m2, m3, m4⟩ := Hok.out.gb _ (List.mem_of_getElem? hGk)
        have m0 : 0 ≤ g'.mn := m0
        have m1 : g'.mn ≤ g'.mx := m1
        have m3 : g'.mx ≤ 200 := m3
        have m4 : g'.nm.size ≤ 300 := m4
        obtain ⟨nn, hnn⟩ : ∃ nn : Nat, g'.mn = (nn : Int) := ⟨g'.mn.toNat, by omega⟩
        have hnb : nn ≤ 200 := by omega
        have hkl : k < (l.map gkOf).length := lt_at hGk
        have hpk : (CS.at (l.map gkOf) d k).P[k]? = some pl0 := at_pool hkl
        have hPl : (CS.at (l.map gkOf) d k).P.length = N := by
          show ((((l.map gkOf).take k).map plN) ++ ((l.map gkOf).drop k).map fun _ => pl0).length = N
          rw [List.length_append, List.length_map, List.length_map, List.length_take, List.length_drop, List.length_map, HN.out]
          omega
        have hLl : (CS.at (l.map gkOf) d k).L.length ≤ 1000000 := by
          have h9 := insN_len ((l.map gkOf).take k) fun g hg => by
            obtain ⟨q0, q1, q2, q3, _⟩ := Hok.out.gb g (List.mem_of_mem_take hg)
            omega
          rw [List.length_take] at h9
          show (((l.map gkOf).take k).flatMap insN).length ≤ _
          omega
        have Hpk := Lib.hid hpk
        have HPl := Lib.hid hPl
        have HLl := Lib.hid hLl
        have Hnx := Lib.hid (show (CS.at (l.map gkOf) d k).req k (gkOf g') pl0 ⟨emp, emp, 2, 0, 0⟩ nn = CS.at (l.map gkOf) d (k + 1) from by
          have h9 := at_next (dl := d) hGk m0
          rw [show (gkOf g').mn.toNat = nn from by show g'.mn.toNat = nn; omega] at h9
          exact h9)
        obtain ⟨gb, go, hga, hgb, hgc⟩ := HF.out (by rw [HN.out]; omega)
        have x1 : wr.cell? ⟨gb, go + k * 15 + 1, none⟩ = some (.int .i64 nn) := by rw [← hnn]; exact (hT.bl.cell (p := ⟨gb, go + k * 15 + 1, none⟩) hgb).trans (hgc k g' hg' 1 (by decide))
        have X0 := Lib.hid (show ∀ V : World, Below w.heap.size w V → V.cell? ⟨gb, go + k * 15 + 1, none⟩ = some (.int .i64 nn) from fun V hV => by rw [← hnn]; exact (hV.cell (p := ⟨gb, go + k * 15 + 1, none⟩) hgb).trans (hgc k g' hg' 1 (by decide)))
        obtain ⟨ta, tk, te, hTa⟩ := hT.tAt
        obtain ⟨tq, te2, tl, td⟩ := hTa (by rw [hPl]; omega)
        have tqe : w1.heap.size + 1 + 1 = tq := by rw [te2] at te; injection te with e1; injection e1 with e1; injection e1
        have t1 : wr.cell? ⟨w1.heap.size + 1 + 1, k, none⟩ = some (.int .i64 0) := by rw [tqe]; exact td k pl0 hpk
        have tl1 : w1.heap.size + 1 + 1 < wr.heap.size := by rw [tqe]; exact tl
        have hto := hT.to
        rw [hPl] at hto
        have tf := hto.frozenAt k
        clear hto
        have b1 := hT.row.cell 1
        dsimp only [List.getElem?_cons_zero, List.getElem?_cons_succ] at b1
        have hbl := hT.row.lt
        have hgbw : gb < wr.heap.size := Nat.lt_of_lt_of_le hgb hT.bl.size
        have hki : (k : Int) < (N : Int) := by omega
        have hk0 : (0 : Int) ≤ (k : Int) := by omega
        subst hga
        clear hg' hGk hnn hkl hpk hPl hLl hgc te te2 tqe td hTa hT m1 m2 m3 tl
        go_wp2
        have hcH := held_cell
        refine region_rel_tail 11 (by kernel_rfl) (by kernel_rfl) (by kernel_rfl) ?_
        dsimp only [List.take, List.drop]
        repeat
          ((with_reducible refine relStep (fun K hK => ?_))
           (have HK := Lib.hid hK)
           clear hK
           (apply relInl
            · intro r n hf
              have Hf := Lib.hid hf
              clear hf
              (first
                | (fail)
                | (unfold relAt
                   go_simp
                   (first | (refine relUpon_val ?_ (Below.refl _ _); exact rfl) | exact rfl | (refine relUpon_enter ?_; fail))))
            (simp only [Act.put, List.setIfInBounds_toArray, List.set_cons_zero, List.set_cons_succ])
            (with_reducible refine HK.out _ _ ?_)
            clear HK K))
        refine relNil ?_
        intro r6 n6 hx6
        clear hcH
        (try simp only [List.nil_append, List.cons_append, List.mem_cons, List.not_mem_nil, or_false, forall_eq_or_imp, forall_eq, false_implies, implies_true] at hx6)
        obtain ⟨w6, hb6⟩ := n6
        (try dsimp only)
        obtain ⟨hc6, hf6⟩ := bcell hb6
        have hz6 := hb6.size
        (try simp at hz6)
        have HT6 := Lib.hid (HTr.out.below hb6)
        have u1 : w6.cell? ⟨w1.heap.size + 1 + 1, k, none⟩ = _ := (hc6 (w1.heap.size + 1 + 1) k tl1).trans t1
        have hto := HT6.out.to
        rw [HPl.out] at hto
        have uf := hto.frozenAt k
        clear hc6 hf6 hb6 t1 tf b1 x1 hto
        go_wp2
        obtain ⟨W6, hW6⟩ : ∃ W6, W6 = w6.setCell ⟨w1.heap.size + 1 + 1, k, none⟩ (.int .i64 nn) := ⟨_, rfl⟩
        rw [← hW6]
        have HT7 := Lib.hid (show RT w W6 (w1.heap.size + 1 + 1 + 1) (some ⟨gb, go, none⟩) ka l ((CS.at (l.map gkOf) d k).part k (gkOf g') pl0 ⟨emp, emp, 2, 0, 0⟩ nn 0) (.slice (some ⟨w1.heap.size + 1 + 1, 0, none⟩) N N) (.slice (some ⟨w1.heap.size + 1, 0, none⟩) N N) (.slice (some ⟨w1.heap.size, 0, none⟩) N N) v from by
          have h9 := HT6.out.tset rfl (nn : Int) Hpk.out
          rw [part_zero, hW6]
          rw [show pl0.t + (nn : Int) = (nn : Int) from Int.zero_add _]
          exact h9)
        obtain ⟨w5, h5⟩ : ∃ w5, w5 = wr := ⟨_, rfl⟩
        subst h5
        clear hW6 u1 uf
        go_loopw [8] (fun i wr => ∃ (q : Nat) (v : Value), q ≤ nn ∧ i = .int .i64 q ∧ RT w wr (w1.heap.size + 1 + 1 + 1) (some ⟨gb, go, none⟩) ka l ((CS.at (l.map gkOf) d k).part k (gkOf g') pl0 ⟨emp, emp, 2, 0, 0⟩ nn q) (.slice (some ⟨w1.heap.size + 1 + 1, 0, none⟩) N N) (.slice (some ⟨w1.heap.size + 1, 0, none⟩) N N) (.slice (some ⟨w1.heap.size, 0, none⟩) N N) v) (fun i _ => nn - (intOf i).toNat)
        case atStart => exact ⟨0, _, Nat.zero_le _, rfl, HT7.out⟩
        case round =>
          obtain ⟨q, v5, hq, rfl, hT5⟩ := hrel
          have x1 := X0.out wr hT5.bl
          have HT5 := Lib.hid hT5
          by_cases hlq : q < nn
          · have hPk : ((CS.at (l.map gkOf) d k).part k (gkOf g') pl0 ⟨emp, emp, 2, 0, 0⟩ nn q).P.length = ((CS.at (l.map gkOf) d k).part k (gkOf g') pl0 ⟨emp, emp, 2, 0, 0⟩ nn q).G.length := by
              show ((CS.at (l.map gkOf) d k).P.set k _).length = (l.map gkOf).length
              rw [List.length_set, HPl.out, List.length_map, HN.out]
            have hLk : ((CS.at (l.map gkOf) d k).part k (gkOf g') pl0 ⟨emp, emp, 2, 0, 0⟩ nn q).L.length ≤ 10000000 := by
              show ((CS.at (l.map gkOf) d k).L ++ moreI _ _ _ q).length ≤ _
              rw [List.length_append, moreI_len]
              have := HLl.out
              omega
            have HMo := Lib.hid (show Calls Tryz.prog 24 #[.pointer (some ⟨w1.heap.size + 1 + 1 + 1, 0, none⟩), .int .i64 k, .int .i64 2, .int .i64 0] wr fun e w' => e = .returned (.tuple #[]) ∧ ∃ v', RT w w' (w1.heap.size + 1 + 1 + 1) (some ⟨gb, go, none⟩) ka l ((CS.at (l.map gkOf) d k).part k (gkOf g') pl0 ⟨emp, emp, 2, 0, 0⟩ nn (q + 1)) (.slice (some ⟨w1.heap.size + 1 + 1, 0, none⟩) N N) (.slice (some ⟨w1.heap.size + 1, 0, none⟩) N N) (.slice (some ⟨w1.heap.size, 0, none⟩) N N) v' from by
              have h9 := rmore_any w (w1.heap.size + 1 + 1 + 1) _ ka l _ _ _ _ v5 k g' _ 2 0 wr hT5 hPk Hg'.out (part_pool (by rw [HPl.out]; exact hlt)) m4 ⟨by show 0 ≤ (0 : Int) + (q : Int); omega, by show (0 : Int) + (q : Int) ≤ _; omega⟩ hLk (by rw [HN.out]; exact h16)
              have h8 : ((CS.at (l.map gkOf) d k).part k (gkOf g') pl0 ⟨emp, emp, 2, 0, 0⟩ nn q).mor k (gkOf g') ⟨pl0.t + nn, pl0.la + q, pl0.br⟩ 2 0 = (CS.at (l.map gkOf) d k).part k (gkOf g') pl0 ⟨emp, emp, 2, 0, 0⟩ nn (q + 1) := mor_part (CS.at (l.map gkOf) d k) k (gkOf g') pl0 nn q 2 0
              rw [h8] at h9
              refine h9.mono ?_
              rintro e w' ⟨rfl, v', hh, _⟩
              exact ⟨rfl, v', hh⟩)
            clear hT5 hPk hLk
            go_wp2_with (go_at_call 24; (with_reducible refine HMo.out.mono ?_); rintro e w9 ⟨rfl, v', hT9⟩; have HT9 := Lib.hid hT9; clear hT9)
            go_roundw
            case rel => exact ⟨q + 1, v', by omega, by go_num, HT9.out⟩
            case measure => simp [intOf]; omega
          · obtain rfl : q = nn := by omega
            have HTe := Lib.hid (Hnx.out ▸ (show RT w wr (w1.heap.size + 1 + 1 + 1) (some ⟨gb, go, none⟩) ka l ((CS.at (l.map gkOf) d k).req k (gkOf g') pl0 ⟨emp, emp, 2, 0, 0⟩ q) (.slice (some ⟨w1.heap.size + 1 + 1, 0, none⟩) N N) (.slice (some ⟨w1.heap.size + 1, 0, none⟩) N N) (.slice (some ⟨w1.heap.size, 0, none⟩) N N) v5 from hT5))
            clear hT5
            go_wp2
            go_roundw
            case rel => exact ⟨k + 1, v5, by omega, by go_num, HTe.out⟩
            case measure => simp [intOf]; omega
      · obtain rfl : k = N := by omega
        have hall : CS.at (l.map gkOf) d k = CS.new (l.map gkOf) d := at_all _ _ (by rw [List.length_map, HN.out]; exact Nat.le_refl _)
        rw [hall] at HTr
        clear hT hall
        go_wp2
        go_ret2
        exact ⟨⟨_, _, _, _, _, rfl, HTr.out⟩, HTr.out.bl⟩
end Go.Proofs.YtcfdejlbchdciaaGreatDoor
