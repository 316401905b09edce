/-
  The document's table: put.
-/
import Derived.Test.YteccmjbgedmfhaaTmRf2
namespace Go.Proofs.Yteccmjbgedmfhaa
open Go.RowKit
set_option linter.unusedVariables false
set_option linter.unusedSimpArgs false

theorem Rep.put {T : ByteArray → Option Int} {M : List Nt} (h : Rep T M) {g : ByteArray} {now : Int} (hg : T g = none) (hs : g.size ≤ maxLen) (h0 : 0 ≤ now) (h1 : now ≤ 1099511627776) (k : Nat) (hk : ∀ x ∈ M.take k, ltN x (g, now)) (hn : ∀ x, M[k]? = some x → ¬ ltN x (g, now)) :
    Rep (updT T g (some now)) (M.take k ++ (g, now) :: M.drop k) := by
  have hne := h.none_ne hg
  have hmem : ∀ x : Nt, x ∈ M ↔ x ∈ M.take k ∨ x ∈ M.drop k := fun x => by rw [← List.mem_append, List.take_append_drop]
  have hd : ∀ x ∈ M.drop k, ltN (g, now) x := by
    intro x hx
    obtain ⟨j, hj, e⟩ := List.mem_iff_getElem.1 hx
    have hj2 : j < M.length - k := by simpa using hj
    have hk2 : k < M.length := by omega
    have h3 := ltN_tri (hn _ (List.getElem?_eq_getElem hk2)) (hne _ (List.getElem_mem hk2))
    have e2 : x = M[k + j]'(by omega) := by rw [← e]; simp
    by_cases hz : j = 0
    · subst hz
      rw [e2]
      exact h3
    · rw [e2]
      exact ltN_trans h3 (List.pairwise_iff_getElem.1 h.srt k (k + j) hk2 (by omega) (by omega))
  have hsp : (M.take k ++ M.drop k).Pairwise ltN := by rw [List.take_append_drop]; exact h.srt
  rw [List.pairwise_append] at hsp
  refine ⟨?_, fun s t => ?_, fun x hx => ?_, fun x hx => ?_⟩
  · rw [List.pairwise_append, List.pairwise_cons]
    refine ⟨hsp.1, ⟨hd, hsp.2.1⟩, fun x hx y hy => ?_⟩
    rcases List.mem_cons.1 hy with rfl | hy
    · exact hk x hx
    · exact hsp.2.2 x hx y hy
  · rw [List.mem_append, List.mem_cons]
    by_cases e : s = g
    · subst e
      rw [updT_same]
      constructor
      · intro e2
        exact .inr (.inl (by rw [Option.some.inj e2]))
      · rintro (h2 | h2 | h2)
        · exact absurd rfl (hne _ ((hmem _).2 (.inl h2)))
        · injection h2 with _ h2; rw [h2]
        · exact absurd rfl (hne _ ((hmem _).2 (.inr h2)))
    · rw [updT_other e, h.rep, hmem]
      constructor
      · rintro (h2 | h2)
        · exact .inl h2
        · exact .inr (.inr h2)
      · rintro (h2 | h2 | h2)
        · exact .inl h2
        · injection h2 with h2; exact absurd h2 e
        · exact .inr h2
  · rw [List.mem_append, List.mem_cons] at hx
    rcases hx with hx | rfl | hx
    · exact h.le x ((hmem x).2 (.inl hx))
    · exact hs
    · exact h.le x ((hmem x).2 (.inr hx))
  · rw [List.mem_append, List.mem_cons] at hx
    rcases hx with hx | rfl | hx
    · exact h.ok x ((hmem x).2 (.inl hx))
    · exact ⟨h0, h1⟩
    · exact h.ok x ((hmem x).2 (.inr hx))

theorem if_no {c : Prop} [Decidable c] {A B : Prop} (h : ¬ c) (hB : B) : if c then A else B := by rw [if_neg h]; exact hB
theorem rows_drop {w : World} {b : Nat} {l : List Nt} (h : NtL w (some ⟨b, 0, none⟩) l) (k : Nat) : NtL w (some ⟨b, k * 2, none⟩) (l.drop k) := fun hp => by
  obtain ⟨b', off, e, hb, hc⟩ := h (by rw [List.length_drop] at hp; omega)
  cases e
  refine ⟨b, k * 2, rfl, hb, fun i x hx r hr => ?_⟩
  rw [List.getElem?_drop] at hx
  rw [← hc (k + i) x hx r hr]
  congr 2
  omega

set_option maxRecDepth 100000 in
set_option maxHeartbeats 8000000 in
theorem rput_some (base p b kc : Nat) (T : ByteArray → Option Int) (xs : List Nt) (g : ByteArray) (now : Int) (w : World) (h : RT w base p xs (.slice (some ⟨b, 0, none⟩) xs.length kc)) (hr : Rep T xs) (hm : xs.length ≤ 1000000) (hg : T g = none) (hs : g.size ≤ 1000000000) (h0 : 0 ≤ now) (h1 : now ≤ 1099511627776) (hle : ∀ x ∈ xs, x.1.size ≤ 1000000000) (hkc : xs.length ≤ kc) (hb : b < w.heap.size) :
    Calls Try.prog 28 #[.pointer (some ⟨p, 0, none⟩), .agg #[.string g, .int .i64 now]] w fun e w' => e = .returned (.tuple #[]) ∧ ∃ M' v', Rep (updT T g (some now)) M' ∧ M'.length = xs.length + 1 ∧ (∀ x ∈ M', x.1.size ≤ 1000000000) ∧ RT w' base p M' v' ∧ Only [p] w w' ∧ ∀ q, v'.ownBlock = some q → w.heap.size ≤ q := by
  have Hh := Lib.hid h
  have HR := Lib.hid hr
  have hF : NtL w (some ⟨b, 0, none⟩) xs := by
    obtain ⟨a, k, e, hN, hR⟩ := IsL.of_own ntc_len (by decide) h.own
    injection e with e
    rw [e]
    exact hR
  have HF := Lib.hid hF
  clear hF
  have cp := h.row.cell 0
  dsimp only [List.getElem?_cons_zero] at cp
  have fp := h.row.frozen 0
  have hp := h.row.lt
  have Hle := Lib.hid hle
  clear h hr hle
  obtain ⟨i0, hi, hz0, hz1, hz2⟩ := info_parts Try.info57
  have Hi := Lib.hid hi
  have Hz0 := Lib.hid hz0
  have Hz1 := Lib.hid hz1
  have Hz2 := Lib.hid hz2
  clear hi hz0 hz1 hz2
  obtain ⟨n, hln⟩ : ∃ n, xs.length = n := ⟨_, rfl⟩
  rw [hln] at hm cp hkc
  have Hln := Lib.hid hln
  clear hln
  go_enter Try.func28, Try.ntmps28
  go_wp2
  obtain ⟨W, hW⟩ : ∃ W, W = w.alloc (.cells #[.string g, .int .i64 now] 57) := ⟨_, rfl⟩
  have hbW : Below w.heap.size w W := by rw [hW]; (repeat' (first | with_reducible exact Below.refl _ _ | with_reducible assumption | with_reducible refine Below.drew ?_ | with_reducible refine below_drewN' ?_ _ | with_reducible refine Below.alloc ?_ ?_ _ | with_reducible refine Below.setCell ?_ ?_ _ | with_reducible refine below_step (by assumption) ?_ ?_ | omega | (simp; done) | (simp; omega)))
  have hWz : W.heap.size = w.heap.size + 1 := by rw [hW]; simp
  have y0 : W.cell? ⟨w.heap.size, 0, none⟩ = some (.string g) := by rw [hW]; exact World.cell?_alloc_at _ _ _ _ rfl
  have y1 : W.cell? ⟨w.heap.size, 1, none⟩ = some (.int .i64 now) := by rw [hW]; exact World.cell?_alloc_at _ _ _ _ rfl
  have cpW : W.cell? ⟨p, 0, none⟩ = some (.slice (some ⟨b, 0, none⟩) n kc) := by rw [hbW.cell (p := ⟨p, 0, none⟩) hp]; exact cp
  have HFW := Lib.hid (HF.out.mono hbW)
  have HW := Lib.hid hbW
  rw [← hW]
  clear hW hbW cp
  go_loopw [4, 5] (fun v i wr => ∃ k : Nat, k ≤ n ∧ i = .int .i64 k ∧ wr.ownsRow W.heap.size 57 2 v k ((xs.take k).flatMap ntc) ∧ (∀ x ∈ xs.take k, ltN x (g, now)) ∧ Below W.heap.size W wr) (fun _ i _ => n - (intOf i).toNat)
  case atStart => exact ⟨0, Nat.zero_le _, rfl, World.ownsRow_nil _ _ _ _, by simp, by (repeat' (first | with_reducible exact Below.refl _ _ | with_reducible assumption | with_reducible refine Below.drew ?_ | with_reducible refine below_drewN' ?_ _ | with_reducible refine Below.alloc ?_ ?_ _ | with_reducible refine Below.setCell ?_ ?_ _ | with_reducible refine below_step (by assumption) ?_ ?_ | omega | (simp; done) | (simp; omega)))⟩
  case round =>
    obtain ⟨k, hk, rfl, hown, hlt0, hB⟩ := hrel
    have Hown := Lib.hid hown
    have Hlt := Lib.hid hlt0
    have HB := Lib.hid hB
    have hbz := hB.size
    have z0 : wr.cell? ⟨w.heap.size, 0, none⟩ = some (.string g) := by rw [hB.cell (p := ⟨w.heap.size, 0, none⟩) (by show w.heap.size < _; omega)]; exact y0
    have z1 : wr.cell? ⟨w.heap.size, 1, none⟩ = some (.int .i64 now) := by rw [hB.cell (p := ⟨w.heap.size, 1, none⟩) (by show w.heap.size < _; omega)]; exact y1
    have cpr : wr.cell? ⟨p, 0, none⟩ = some (.slice (some ⟨b, 0, none⟩) n kc) := by rw [hB.cell (p := ⟨p, 0, none⟩) (by show p < _; omega)]; exact cpW
    have l0 : p < wr.heap.size := by omega
    have l1 : w.heap.size < wr.heap.size := by omega
    have l2 : b < wr.heap.size := by omega
    have HFr := Lib.hid (fun (V : World) (hV : Below W.heap.size W V) => RowsAt.news ntc_len (rows_drop (HFW.out.mono hV) k))
    clear hown hlt0 hB
    by_cases hlt : k < n
    · have j1 : decide ((k : Int) < (n : Int)) = true := decide_eq_true (by omega)
      obtain ⟨x, hx⟩ := mem_at (l := xs) (k := k) (by rw [Hln.out]; exact hlt)
      have Hx := Lib.hid hx
      obtain ⟨b', off, e, hb', hc⟩ := HFW.out (by rw [Hln.out]; omega)
      cases e
      obtain ⟨x0, x1⟩ := nt_cells (hc k x hx)
      rw [Nat.zero_add] at x0 x1
      have x0' : wr.cell? ⟨b, k * 2, none⟩ = some (.string x.1) := by rw [HB.out.cell (p := ⟨b, _, none⟩) hb']; exact x0
      have x1' : wr.cell? ⟨b, k * 2 + 1, none⟩ = some (.int .i64 x.2) := by rw [HB.out.cell (p := ⟨b, _, none⟩) hb']; exact x1
      have hxs := Hle.out x (List.mem_of_getElem? hx)
      clear hx hc x0 x1
      by_cases q1 : x.2 < now
      · have j2 : decide (x.2 < now) = true := decide_eq_true q1
        have hl : ltN x (g, now) := .inl q1
        go_wp2
        have hcH := held_cell
        refine region_below (by kernel_rfl) (by kernel_rfl) ?_
        repeat
          ((with_reducible refine wpQuiet_step (fun K hK => ?_))
           go_simp
           first
             | ((with_reducible refine hK _ ?_); clear hK K)
             | ((refine if_no (fun h => by (have h2 : (none : Option Bool) = some true := h); cases h2) ?_); (with_reducible refine hK _ ?_); clear hK K)
             | ((refine if_no (fun h => by (have h2 : (none : Option Bool) = some false := h); cases h2) ?_); (with_reducible refine hK _ ?_); clear hK K)
             | (apply Exists.intro
                (with_reducible refine ⟨fun n => ?_, hK _ ?_⟩)
                (fail)
                clear hK K))
        with_reducible refine wpQuiet_nil ?_
        intro w7 hw2
        clear hcH
        obtain ⟨⟨_, hb7⟩, rfl⟩ := hw2
        (try dsimp only)
        obtain ⟨hc7, hf7⟩ := bcell hb7
        have hz7 := hb7.size
        (try simp at hz7)
        have HO7 := Lib.hid (own_kept Hown.out hb7)
        have HB7 := Lib.hid (HB.out.trans (hb7.mono HB.out.size))
        have hbx : W.heap.size ≤ w7.heap.size := by omega
        have hL : ((xs.take k).flatMap ntc).length = k * 2 := by rw [rows_length ntc 2 ntc_len, List.length_take, Hln.out, Nat.min_eq_left hk]
        have hc3 : k + 1 ≤ maxLen := by unfold maxLen; omega
        have hc4 : (k + 1) * 24 ≤ 140737488355328 := by omega
        have Hrow := Lib.hid (show (xs.take k).flatMap ntc ++ ntc x = (xs.take (k + 1)).flatMap ntc by rw [take_at Hx.out]; simp)
        have e0 : w7.cell? ⟨b, k * 2, none⟩ = some (.string x.1) := by rw [hb7.cell (p := ⟨b, _, none⟩) l2]; exact x0'
        have e1 : w7.cell? ⟨b, k * 2 + 1, none⟩ = some (.int .i64 x.2) := by rw [hb7.cell (p := ⟨b, _, none⟩) l2]; exact x1'
        have ep : w7.cell? ⟨p, 0, none⟩ = some (.slice (some ⟨b, 0, none⟩) n kc) := by rw [hb7.cell (p := ⟨p, 0, none⟩) l0]; exact cpr
        have l3 : p < w7.heap.size := by omega
        have l4 : b < w7.heap.size := by omega
        go_wp2_with (at_builtin; refine wpList_append_own _ rfl (.tmp 52) (.tmp 60) 26 rfl W.heap.size 57 i0 _ 2 24 Try.underlying26 Hi.out Hz0.out Hz1.out Hz2.out rfl (by decide) _ k ((xs.take k).flatMap ntc) rfl (HO7.out.alloc _) ⟨w7.heap.size, 0, none⟩ 1 1 (ntc x) rfl rfl (news_at _ _ _) (ntc_one _) hc3 hc4 (le_alloc hbx _) ?_; intro v1 w1 hown1 hgrow1 _; rw [Hrow.out] at hown1; have hB1 := own_below (HO7.out.alloc _) (HB7.out.alloc hbx _) (le_alloc hbx _) hgrow1; have HO1 := Lib.hid hown1; clear hown1 hgrow1)
        go_roundw
        case rel => exact ⟨k + 1, by omega, by go_num, HO1.out, (fun y hy => by
          rw [take_at Hx.out, List.mem_append] at hy
          rcases hy with hy | hy
          · exact Hlt.out y hy
          · obtain rfl : y = x := by simpa using hy
            exact hl), hB1⟩
        case measure => simp [intOf]; omega
      · have j2 : decide (x.2 < now) = false := decide_eq_false q1
        by_cases q2 : x.2 = now
        · have j3 : (x.2 == now) = true := beq_iff_eq.2 q2
          have HL := Lib.hid (fun V => less_any x.1 g (by omega) V)
          cases q3 : bl x.1 g with
          | true =>
            have hl : ltN x (g, now) := .inr ⟨q2, q3⟩
            rw [← less_bl] at q3
            rw [q3] at HL
            clear q3 q2
            go_wp2
            have hcH := held_cell
            refine region_below (by kernel_rfl) (by kernel_rfl) ?_
            repeat
              ((with_reducible refine wpQuiet_step (fun K hK => ?_))
               go_simp
               first
                 | ((with_reducible refine hK _ ?_); clear hK K)
                 | ((refine if_no (fun h => by (have h2 : (none : Option Bool) = some true := h); cases h2) ?_); (with_reducible refine hK _ ?_); clear hK K)
                 | ((refine if_no (fun h => by (have h2 : (none : Option Bool) = some false := h); cases h2) ?_); (with_reducible refine hK _ ?_); clear hK K)
                 | (apply Exists.intro
                    (with_reducible refine ⟨fun n => ?_, hK _ ?_⟩)
                    ((go_at_call 38; exact held_calls (HL.out _)))
                    clear hK K))
            with_reducible refine wpQuiet_nil ?_
            intro w7 hw2
            clear hcH
            obtain ⟨⟨_, hb7⟩, rfl⟩ := hw2
            (try dsimp only)
            obtain ⟨hc7, hf7⟩ := bcell hb7
            have hz7 := hb7.size
            (try simp at hz7)
            have HO7 := Lib.hid (own_kept Hown.out hb7)
            have HB7 := Lib.hid (HB.out.trans (hb7.mono HB.out.size))
            have hbx : W.heap.size ≤ w7.heap.size := by omega
            have hL : ((xs.take k).flatMap ntc).length = k * 2 := by rw [rows_length ntc 2 ntc_len, List.length_take, Hln.out, Nat.min_eq_left hk]
            have hc3 : k + 1 ≤ maxLen := by unfold maxLen; omega
            have hc4 : (k + 1) * 24 ≤ 140737488355328 := by omega
            have Hrow := Lib.hid (show (xs.take k).flatMap ntc ++ ntc x = (xs.take (k + 1)).flatMap ntc by rw [take_at Hx.out]; simp)
            have e0 : w7.cell? ⟨b, k * 2, none⟩ = some (.string x.1) := by rw [hb7.cell (p := ⟨b, _, none⟩) l2]; exact x0'
            have e1 : w7.cell? ⟨b, k * 2 + 1, none⟩ = some (.int .i64 x.2) := by rw [hb7.cell (p := ⟨b, _, none⟩) l2]; exact x1'
            have ep : w7.cell? ⟨p, 0, none⟩ = some (.slice (some ⟨b, 0, none⟩) n kc) := by rw [hb7.cell (p := ⟨p, 0, none⟩) l0]; exact cpr
            have l3 : p < w7.heap.size := by omega
            have l4 : b < w7.heap.size := by omega
            go_wp2_with (at_builtin; refine wpList_append_own _ rfl (.tmp 52) (.tmp 60) 26 rfl W.heap.size 57 i0 _ 2 24 Try.underlying26 Hi.out Hz0.out Hz1.out Hz2.out rfl (by decide) _ k ((xs.take k).flatMap ntc) rfl (HO7.out.alloc _) ⟨w7.heap.size, 0, none⟩ 1 1 (ntc x) rfl rfl (news_at _ _ _) (ntc_one _) hc3 hc4 (le_alloc hbx _) ?_; intro v1 w1 hown1 hgrow1 _; rw [Hrow.out] at hown1; have hB1 := own_below (HO7.out.alloc _) (HB7.out.alloc hbx _) (le_alloc hbx _) hgrow1; have HO1 := Lib.hid hown1; clear hown1 hgrow1)
            go_roundw
            case rel => exact ⟨k + 1, by omega, by go_num, HO1.out, (fun y hy => by
              rw [take_at Hx.out, List.mem_append] at hy
              rcases hy with hy | hy
              · exact Hlt.out y hy
              · obtain rfl : y = x := by simpa using hy
                exact hl), hB1⟩
            case measure => simp [intOf]; omega
          | false =>
            have hn : ∀ x', xs[k]? = some x' → ¬ ltN x' (g, now) := fun x' hx' h => by
              rw [Hx.out] at hx'
              obtain rfl := Option.some.inj hx'
              rcases h with h | ⟨_, h⟩
              · exact q1 h
              · rw [q3] at h; cases h
            rw [← less_bl] at q3
            rw [q3] at HL
            have HNl := Lib.hid hn
            clear q3 hn q2
            go_wp2
            have hcH := held_cell
            refine region_below (by kernel_rfl) (by kernel_rfl) ?_
            repeat
              ((with_reducible refine wpQuiet_step (fun K hK => ?_))
               go_simp
               first
                 | ((with_reducible refine hK _ ?_); clear hK K)
                 | ((refine if_no (fun h => by (have h2 : (none : Option Bool) = some true := h); cases h2) ?_); (with_reducible refine hK _ ?_); clear hK K)
                 | ((refine if_no (fun h => by (have h2 : (none : Option Bool) = some false := h); cases h2) ?_); (with_reducible refine hK _ ?_); clear hK K)
                 | (apply Exists.intro
                    (with_reducible refine ⟨fun n => ?_, hK _ ?_⟩)
                    ((go_at_call 38; exact held_calls (HL.out _)))
                    clear hK K))
            with_reducible refine wpQuiet_nil ?_
            intro w7 hw2
            clear hcH
            obtain ⟨⟨_, hb7⟩, rfl⟩ := hw2
            (try dsimp only)
            obtain ⟨hc7, hf7⟩ := bcell hb7
            have hz7 := hb7.size
            (try simp at hz7)
            have HO7 := Lib.hid (own_kept Hown.out hb7)
            have HB7 := Lib.hid (HB.out.trans (hb7.mono HB.out.size))
            have hbx : W.heap.size ≤ w7.heap.size := by omega
            have hL : ((xs.take k).flatMap ntc).length = k * 2 := by rw [rows_length ntc 2 ntc_len, List.length_take, Hln.out, Nat.min_eq_left hk]
            have hc3 : k + 1 ≤ maxLen := by unfold maxLen; omega
            have hc4 : (k + 1) * 24 ≤ 140737488355328 := by omega
            have Hrow := Lib.hid (show (xs.take k).flatMap ntc ++ ntc (g, now) = (xs.take k ++ [(g, now)]).flatMap ntc by simp)
            have ep : w7.cell? ⟨p, 0, none⟩ = some (.slice (some ⟨b, 0, none⟩) n kc) := by rw [hb7.cell (p := ⟨p, 0, none⟩) l0]; exact cpr
            have e0 : w7.cell? ⟨w.heap.size, 0, none⟩ = some (.string g) := by rw [hb7.cell (p := ⟨w.heap.size, 0, none⟩) l1]; exact z0
            have e1 : w7.cell? ⟨w.heap.size, 1, none⟩ = some (.int .i64 now) := by rw [hb7.cell (p := ⟨w.heap.size, 1, none⟩) l1]; exact z1
            have l3 : p < w7.heap.size := by omega
            have l4 : w.heap.size < w7.heap.size := by omega
            have hdl : (xs.drop k).length = n - k := by rw [List.length_drop, Hln.out]
            have Hdl := Lib.hid (show ((xs.drop k).flatMap ntc).length = (n - k) * 2 by rw [rows_length ntc 2 ntc_len, hdl])
            have hc5 : k + 1 + (n - k) ≤ maxLen := by unfold maxLen; omega
            have hc6 : (k + 1 + (n - k)) * 24 ≤ 140737488355328 := by omega
            clear hdl
            have Hkn := Lib.hid (show k + 1 + (n - k) = n + 1 by omega)
            obtain ⟨N', hN'⟩ : ∃ N', (xs.take k ++ (g, now) :: xs.drop k).length = N' := ⟨_, rfl⟩
            have HN' := Lib.hid hN'
            have HMl := Lib.hid (show k + 1 + (n - k) = (xs.take k ++ (g, now) :: xs.drop k).length by rw [List.length_append, List.length_cons, List.length_take, List.length_drop, Hln.out, Nat.min_eq_left hk]; omega)
            have HMf := Lib.hid (show (xs.take k ++ [(g, now)]).flatMap ntc ++ (xs.drop k).flatMap ntc = (xs.take k ++ (g, now) :: xs.drop k).flatMap ntc by simp)
            clear hN'
            go_wp2_with (first
              | ((at_builtin; refine wpList_append_own _ rfl (.tmp 64) (.tmp 66) 26 rfl W.heap.size 57 i0 _ 2 24 Try.underlying26 Hi.out Hz0.out Hz1.out Hz2.out rfl (by decide) _ k ((xs.take k).flatMap ntc) rfl (HO7.out.alloc _) ⟨w7.heap.size, 0, none⟩ 1 1 (ntc (g, now)) rfl rfl (news_at _ _ _) (ntc_one _) hc3 hc4 (le_alloc hbx _) ?_; intro v1 w1 hown1 hgrow1 _; rw [Hrow.out] at hown1; have hB1 := own_below (HO7.out.alloc _) (HB7.out.alloc hbx _) (le_alloc hbx _) hgrow1; have HO1 := Lib.hid hown1; clear hown1 hgrow1); have ep1 : w1.cell? ⟨p, 0, none⟩ = some (.slice (some ⟨b, 0, none⟩) n kc) := (by rw [hB1.cell (p := ⟨p, 0, none⟩) (by show p < _; omega)]; exact cpW); have hz1 := hB1.size; have l5 : p < w1.heap.size := (by omega); have l6 : W.heap.size ≤ w1.heap.size := (by omega))
              | (at_builtin; refine wpList_append_src rfl (.tmp 69) (.tmp 75) 26 rfl W.heap.size 57 i0 _ 2 24 Try.underlying26 Hi.out Hz0.out Hz1.out Hz2.out rfl (by decide) _ (k + 1) ((xs.take k ++ [(g, now)]).flatMap ntc) rfl HO1.out (some ⟨b, k * 2, none⟩) (n - k) (kc - k) ((xs.drop k).flatMap ntc) rfl Hdl.out (HFr.out _ hB1) (fun e => by cases e) (flat_ones ntc_one _) hc5 hc6 l6 ?_; intro v2 w2 hown2 hgrow2; have hB2 := own_below HO1.out hB1 l6 hgrow2; have ep2 : w2.cell? ⟨p, 0, none⟩ = some (.slice (some ⟨b, 0, none⟩) n kc) := (by rw [hB2.cell (p := ⟨p, 0, none⟩) (by show p < _; omega)]; exact cpW); have hz2 := hB2.size; have l7 : p < w2.heap.size := (by omega); have fp2 : w2.frozen? ⟨p, 0, none⟩ = false := (by rw [(bcell hB2).2 p 0 (by omega), (bcell HW.out).2 p 0 hp]; exact fp); rw [HMl.out, HMf.out] at hown2; obtain ⟨sp2, cap2, e2, _⟩ := own_rows ntc_len hown2 (by decide); rw [HN'.out] at e2; subst e2; have HO2 := Lib.hid hown2; clear hown2 hgrow2))
            go_end0
            have hrep := HR.out.put hg (by unfold maxLen; omega) h0 h1 k Hlt.out HNl.out
            have hB2w := HW.out.trans (hB2.mono HW.out.size)
            have hpb := Hh.out.hp
            refine ⟨rfl, _, _, hrep, (by rw [← HMl.out, Hln.out]; exact Hkn.out), fun y hy => ?_, ⟨(Hh.out.row.below hB2w).set 0 _, ?_, ?_, Hh.out.hp⟩, (Only.of_below hB2w).setCell (.inl (by simp)) _, fun q hq => by have h1 := (own_lt HO2.out hq).1; omega⟩
            · rw [List.mem_append, List.mem_cons] at hy
              rcases hy with hy | rfl | hy
              · exact Hle.out y (List.mem_of_mem_take hy)
              · exact hs
              · exact Hle.out y (List.mem_of_mem_drop hy)
            · exact own_same (own_base HO2.out (by omega)) fun q hq => Below.heap_setCell _ _ _ _ (fun e => by have h1 := (own_lt HO2.out hq).1; simp only at e; omega)
            · intro hq
              have h1 := (own_lt HO2.out hq).1
              omega
        · have j3 : (x.2 == now) = false := by simpa using q2
          have HNl := Lib.hid (show ∀ x', xs[k]? = some x' → ¬ ltN x' (g, now) from fun x' hx' h => by
            rw [Hx.out] at hx'
            obtain rfl := Option.some.inj hx'
            rcases h with h | ⟨h, _⟩
            · exact q1 h
            · exact q2 h)
          go_wp2
          have hcH := held_cell
          refine region_below (by kernel_rfl) (by kernel_rfl) ?_
          repeat
            ((with_reducible refine wpQuiet_step (fun K hK => ?_))
             go_simp
             first
               | ((with_reducible refine hK _ ?_); clear hK K)
               | ((refine if_no (fun h => by (have h2 : (none : Option Bool) = some true := h); cases h2) ?_); (with_reducible refine hK _ ?_); clear hK K)
               | ((refine if_no (fun h => by (have h2 : (none : Option Bool) = some false := h); cases h2) ?_); (with_reducible refine hK _ ?_); clear hK K)
               | (apply Exists.intro
                  (with_reducible refine ⟨fun n => ?_, hK _ ?_⟩)
                  (fail)
                  clear hK K))
          with_reducible refine wpQuiet_nil ?_
          intro w7 hw2
          clear hcH
          obtain ⟨⟨_, hb7⟩, rfl⟩ := hw2
          (try dsimp only)
          obtain ⟨hc7, hf7⟩ := bcell hb7
          have hz7 := hb7.size
          (try simp at hz7)
          have HO7 := Lib.hid (own_kept Hown.out hb7)
          have HB7 := Lib.hid (HB.out.trans (hb7.mono HB.out.size))
          have hbx : W.heap.size ≤ w7.heap.size := by omega
          have hL : ((xs.take k).flatMap ntc).length = k * 2 := by rw [rows_length ntc 2 ntc_len, List.length_take, Hln.out, Nat.min_eq_left hk]
          have hc3 : k + 1 ≤ maxLen := by unfold maxLen; omega
          have hc4 : (k + 1) * 24 ≤ 140737488355328 := by omega
          have Hrow := Lib.hid (show (xs.take k).flatMap ntc ++ ntc (g, now) = (xs.take k ++ [(g, now)]).flatMap ntc by simp)
          have ep : w7.cell? ⟨p, 0, none⟩ = some (.slice (some ⟨b, 0, none⟩) n kc) := by rw [hb7.cell (p := ⟨p, 0, none⟩) l0]; exact cpr
          have e0 : w7.cell? ⟨w.heap.size, 0, none⟩ = some (.string g) := by rw [hb7.cell (p := ⟨w.heap.size, 0, none⟩) l1]; exact z0
          have e1 : w7.cell? ⟨w.heap.size, 1, none⟩ = some (.int .i64 now) := by rw [hb7.cell (p := ⟨w.heap.size, 1, none⟩) l1]; exact z1
          have l3 : p < w7.heap.size := by omega
          have l4 : w.heap.size < w7.heap.size := by omega
          have hdl : (xs.drop k).length = n - k := by rw [List.length_drop, Hln.out]
          have Hdl := Lib.hid (show ((xs.drop k).flatMap ntc).length = (n - k) * 2 by rw [rows_length ntc 2 ntc_len, hdl])
          have hc5 : k + 1 + (n - k) ≤ maxLen := by unfold maxLen; omega
          have hc6 : (k + 1 + (n - k)) * 24 ≤ 140737488355328 := by omega
          clear hdl
          have Hkn := Lib.hid (show k + 1 + (n - k) = n + 1 by omega)
          obtain ⟨N', hN'⟩ : ∃ N', (xs.take k ++ (g, now) :: xs.drop k).length = N' := ⟨_, rfl⟩
          have HN' := Lib.hid hN'
          have HMl := Lib.hid (show k + 1 + (n - k) = (xs.take k ++ (g, now) :: xs.drop k).length by rw [List.length_append, List.length_cons, List.length_take, List.length_drop, Hln.out, Nat.min_eq_left hk]; omega)
          have HMf := Lib.hid (show (xs.take k ++ [(g, now)]).flatMap ntc ++ (xs.drop k).flatMap ntc = (xs.take k ++ (g, now) :: xs.drop k).flatMap ntc by simp)
          clear hN'
          go_wp2_with (first
            | ((at_builtin; refine wpList_append_own _ rfl (.tmp 64) (.tmp 66) 26 rfl W.heap.size 57 i0 _ 2 24 Try.underlying26 Hi.out Hz0.out Hz1.out Hz2.out rfl (by decide) _ k ((xs.take k).flatMap ntc) rfl (HO7.out.alloc _) ⟨w7.heap.size, 0, none⟩ 1 1 (ntc (g, now)) rfl rfl (news_at _ _ _) (ntc_one _) hc3 hc4 (le_alloc hbx _) ?_; intro v1 w1 hown1 hgrow1 _; rw [Hrow.out] at hown1; have hB1 := own_below (HO7.out.alloc _) (HB7.out.alloc hbx _) (le_alloc hbx _) hgrow1; have HO1 := Lib.hid hown1; clear hown1 hgrow1); have ep1 : w1.cell? ⟨p, 0, none⟩ = some (.slice (some ⟨b, 0, none⟩) n kc) := (by rw [hB1.cell (p := ⟨p, 0, none⟩) (by show p < _; omega)]; exact cpW); have hz1 := hB1.size; have l5 : p < w1.heap.size := (by omega); have l6 : W.heap.size ≤ w1.heap.size := (by omega))
            | (at_builtin; refine wpList_append_src rfl (.tmp 69) (.tmp 75) 26 rfl W.heap.size 57 i0 _ 2 24 Try.underlying26 Hi.out Hz0.out Hz1.out Hz2.out rfl (by decide) _ (k + 1) ((xs.take k ++ [(g, now)]).flatMap ntc) rfl HO1.out (some ⟨b, k * 2, none⟩) (n - k) (kc - k) ((xs.drop k).flatMap ntc) rfl Hdl.out (HFr.out _ hB1) (fun e => by cases e) (flat_ones ntc_one _) hc5 hc6 l6 ?_; intro v2 w2 hown2 hgrow2; have hB2 := own_below HO1.out hB1 l6 hgrow2; have ep2 : w2.cell? ⟨p, 0, none⟩ = some (.slice (some ⟨b, 0, none⟩) n kc) := (by rw [hB2.cell (p := ⟨p, 0, none⟩) (by show p < _; omega)]; exact cpW); have hz2 := hB2.size; have l7 : p < w2.heap.size := (by omega); have fp2 : w2.frozen? ⟨p, 0, none⟩ = false := (by rw [(bcell hB2).2 p 0 (by omega), (bcell HW.out).2 p 0 hp]; exact fp); rw [HMl.out, HMf.out] at hown2; obtain ⟨sp2, cap2, e2, _⟩ := own_rows ntc_len hown2 (by decide); rw [HN'.out] at e2; subst e2; have HO2 := Lib.hid hown2; clear hown2 hgrow2))
          go_end0
          have hrep := HR.out.put hg (by unfold maxLen; omega) h0 h1 k Hlt.out HNl.out
          have hB2w := HW.out.trans (hB2.mono HW.out.size)
          have hpb := Hh.out.hp
          refine ⟨rfl, _, _, hrep, (by rw [← HMl.out, Hln.out]; exact Hkn.out), fun y hy => ?_, ⟨(Hh.out.row.below hB2w).set 0 _, ?_, ?_, Hh.out.hp⟩, (Only.of_below hB2w).setCell (.inl (by simp)) _, fun q hq => by have h1 := (own_lt HO2.out hq).1; omega⟩
          · rw [List.mem_append, List.mem_cons] at hy
            rcases hy with hy | rfl | hy
            · exact Hle.out y (List.mem_of_mem_take hy)
            · exact hs
            · exact Hle.out y (List.mem_of_mem_drop hy)
          · exact own_same (own_base HO2.out (by omega)) fun q hq => Below.heap_setCell _ _ _ _ (fun e => by have h1 := (own_lt HO2.out hq).1; simp only at e; omega)
          · intro hq
            have h1 := (own_lt HO2.out hq).1
            omega
    · have j1 : decide ((k : Int) < (n : Int)) = false := decide_eq_false (by omega)
      have HNl := Lib.hid (show ∀ x', xs[k]? = some x' → ¬ ltN x' (g, now) from fun x' hx' => by
        have := lt_at hx'
        rw [Hln.out] at this
        omega)
      by_cases hkk : kc = k
      · subst hkk
        have hnk : n = kc := by omega
        have HFr := Lib.hid (show ∀ V, Below W.heap.size W V → ∀ q, some (⟨b, 0, none⟩ : Addr) = some q → ∀ j u, ((xs.drop kc).flatMap ntc)[j]? = some u → V.cell? (q.add j) = some u from fun V _ q _ j u hu => by
          rw [List.drop_eq_nil_of_le (by rw [Hln.out]; omega)] at hu
          simp at hu)
        clear hnk
        go_wp2
        have hcH := held_cell
        refine region_below (by kernel_rfl) (by kernel_rfl) ?_
        repeat
          ((with_reducible refine wpQuiet_step (fun K hK => ?_))
           go_simp
           first
             | ((with_reducible refine hK _ ?_); clear hK K)
             | ((refine if_no (fun h => by (have h2 : (none : Option Bool) = some true := h); cases h2) ?_); (with_reducible refine hK _ ?_); clear hK K)
             | ((refine if_no (fun h => by (have h2 : (none : Option Bool) = some false := h); cases h2) ?_); (with_reducible refine hK _ ?_); clear hK K)
             | (apply Exists.intro
                (with_reducible refine ⟨fun n => ?_, hK _ ?_⟩)
                (fail)
                clear hK K))
        with_reducible refine wpQuiet_nil ?_
        intro w7 hw2
        clear hcH
        obtain ⟨⟨_, hb7⟩, rfl⟩ := hw2
        (try dsimp only)
        obtain ⟨hc7, hf7⟩ := bcell hb7
        have hz7 := hb7.size
        (try simp at hz7)
        clear j1 hlt hkc
        obtain ⟨k, hkk⟩ : ∃ k, k = kc := ⟨_, rfl⟩
        subst hkk
        have HO7 := Lib.hid (own_kept Hown.out hb7)
        have HB7 := Lib.hid (HB.out.trans (hb7.mono HB.out.size))
        have hbx : W.heap.size ≤ w7.heap.size := by omega
        have hL : ((xs.take k).flatMap ntc).length = k * 2 := by rw [rows_length ntc 2 ntc_len, List.length_take, Hln.out, Nat.min_eq_left hk]
        have hc3 : k + 1 ≤ maxLen := by unfold maxLen; omega
        have hc4 : (k + 1) * 24 ≤ 140737488355328 := by omega
        have Hrow := Lib.hid (show (xs.take k).flatMap ntc ++ ntc (g, now) = (xs.take k ++ [(g, now)]).flatMap ntc by simp)
        have ep : w7.cell? ⟨p, 0, none⟩ = some (.slice (some ⟨b, 0, none⟩) n k) := by rw [hb7.cell (p := ⟨p, 0, none⟩) l0]; exact cpr
        have e0 : w7.cell? ⟨w.heap.size, 0, none⟩ = some (.string g) := by rw [hb7.cell (p := ⟨w.heap.size, 0, none⟩) l1]; exact z0
        have e1 : w7.cell? ⟨w.heap.size, 1, none⟩ = some (.int .i64 now) := by rw [hb7.cell (p := ⟨w.heap.size, 1, none⟩) l1]; exact z1
        have l3 : p < w7.heap.size := by omega
        have l4 : w.heap.size < w7.heap.size := by omega
        have hdl : (xs.drop k).length = n - k := by rw [List.length_drop, Hln.out]
        have Hdl := Lib.hid (show ((xs.drop k).flatMap ntc).length = (n - k) * 2 by rw [rows_length ntc 2 ntc_len, hdl])
        have hc5 : k + 1 + (n - k) ≤ maxLen := by unfold maxLen; omega
        have hc6 : (k + 1 + (n - k)) * 24 ≤ 140737488355328 := by omega
        clear hdl
        have Hkn := Lib.hid (show k + 1 + (n - k) = n + 1 by omega)
        obtain ⟨N', hN'⟩ : ∃ N', (xs.take k ++ (g, now) :: xs.drop k).length = N' := ⟨_, rfl⟩
        have HN' := Lib.hid hN'
        have HMl := Lib.hid (show k + 1 + (n - k) = (xs.take k ++ (g, now) :: xs.drop k).length by rw [List.length_append, List.length_cons, List.length_take, List.length_drop, Hln.out, Nat.min_eq_left hk]; omega)
        have HMf := Lib.hid (show (xs.take k ++ [(g, now)]).flatMap ntc ++ (xs.drop k).flatMap ntc = (xs.take k ++ (g, now) :: xs.drop k).flatMap ntc by simp)
        clear hN'
        go_wp2_with (first
          | ((at_builtin; refine wpList_append_own _ rfl (.tmp 64) (.tmp 66) 26 rfl W.heap.size 57 i0 _ 2 24 Try.underlying26 Hi.out Hz0.out Hz1.out Hz2.out rfl (by decide) _ k ((xs.take k).flatMap ntc) rfl (HO7.out.alloc _) ⟨w7.heap.size, 0, none⟩ 1 1 (ntc (g, now)) rfl rfl (news_at _ _ _) (ntc_one _) hc3 hc4 (le_alloc hbx _) ?_; intro v1 w1 hown1 hgrow1 _; rw [Hrow.out] at hown1; have hB1 := own_below (HO7.out.alloc _) (HB7.out.alloc hbx _) (le_alloc hbx _) hgrow1; have HO1 := Lib.hid hown1; clear hown1 hgrow1); have ep1 : w1.cell? ⟨p, 0, none⟩ = some (.slice (some ⟨b, 0, none⟩) n k) := (by rw [hB1.cell (p := ⟨p, 0, none⟩) (by show p < _; omega)]; exact cpW); have hz1 := hB1.size; have l5 : p < w1.heap.size := (by omega); have l6 : W.heap.size ≤ w1.heap.size := (by omega))
          | (at_builtin; refine wpList_append_src rfl (.tmp 69) (.tmp 75) 26 rfl W.heap.size 57 i0 _ 2 24 Try.underlying26 Hi.out Hz0.out Hz1.out Hz2.out rfl (by decide) _ (k + 1) ((xs.take k ++ [(g, now)]).flatMap ntc) rfl HO1.out (some ⟨b, 0, none⟩) (n - k) (0) ((xs.drop k).flatMap ntc) rfl Hdl.out (HFr.out _ hB1) (fun e => by cases e) (flat_ones ntc_one _) hc5 hc6 l6 ?_; intro v2 w2 hown2 hgrow2; have hB2 := own_below HO1.out hB1 l6 hgrow2; have ep2 : w2.cell? ⟨p, 0, none⟩ = some (.slice (some ⟨b, 0, none⟩) n k) := (by rw [hB2.cell (p := ⟨p, 0, none⟩) (by show p < _; omega)]; exact cpW); have hz2 := hB2.size; have l7 : p < w2.heap.size := (by omega); have fp2 : w2.frozen? ⟨p, 0, none⟩ = false := (by rw [(bcell hB2).2 p 0 (by omega), (bcell HW.out).2 p 0 hp]; exact fp); rw [HMl.out, HMf.out] at hown2; obtain ⟨sp2, cap2, e2, _⟩ := own_rows ntc_len hown2 (by decide); rw [HN'.out] at e2; subst e2; have HO2 := Lib.hid hown2; clear hown2 hgrow2))
        go_end0
        have hrep := HR.out.put hg (by unfold maxLen; omega) h0 h1 k Hlt.out HNl.out
        have hB2w := HW.out.trans (hB2.mono HW.out.size)
        have hpb := Hh.out.hp
        refine ⟨rfl, _, _, hrep, (by rw [← HMl.out, Hln.out]; exact Hkn.out), fun y hy => ?_, ⟨(Hh.out.row.below hB2w).set 0 _, ?_, ?_, Hh.out.hp⟩, (Only.of_below hB2w).setCell (.inl (by simp)) _, fun q hq => by have h1 := (own_lt HO2.out hq).1; omega⟩
        · rw [List.mem_append, List.mem_cons] at hy
          rcases hy with hy | rfl | hy
          · exact Hle.out y (List.mem_of_mem_take hy)
          · exact hs
          · exact Hle.out y (List.mem_of_mem_drop hy)
        · exact own_same (own_base HO2.out (by omega)) fun q hq => Below.heap_setCell _ _ _ _ (fun e => by have h1 := (own_lt HO2.out hq).1; simp only at e; omega)
        · intro hq
          have h1 := (own_lt HO2.out hq).1
          omega
      · skip
        go_wp2
        have hcH := held_cell
        refine region_below (by kernel_rfl) (by kernel_rfl) ?_
        repeat
          ((with_reducible refine wpQuiet_step (fun K hK => ?_))
           go_simp
           first
             | ((with_reducible refine hK _ ?_); clear hK K)
             | ((refine if_no (fun h => by (have h2 : (none : Option Bool) = some true := h); cases h2) ?_); (with_reducible refine hK _ ?_); clear hK K)
             | ((refine if_no (fun h => by (have h2 : (none : Option Bool) = some false := h); cases h2) ?_); (with_reducible refine hK _ ?_); clear hK K)
             | (apply Exists.intro
                (with_reducible refine ⟨fun n => ?_, hK _ ?_⟩)
                (fail)
                clear hK K))
        with_reducible refine wpQuiet_nil ?_
        intro w7 hw2
        clear hcH
        obtain ⟨⟨_, hb7⟩, rfl⟩ := hw2
        (try dsimp only)
        obtain ⟨hc7, hf7⟩ := bcell hb7
        have hz7 := hb7.size
        (try simp at hz7)
        clear j1 hlt
        have HO7 := Lib.hid (own_kept Hown.out hb7)
        have HB7 := Lib.hid (HB.out.trans (hb7.mono HB.out.size))
        have hbx : W.heap.size ≤ w7.heap.size := by omega
        have hL : ((xs.take k).flatMap ntc).length = k * 2 := by rw [rows_length ntc 2 ntc_len, List.length_take, Hln.out, Nat.min_eq_left hk]
        have hc3 : k + 1 ≤ maxLen := by unfold maxLen; omega
        have hc4 : (k + 1) * 24 ≤ 140737488355328 := by omega
        have Hrow := Lib.hid (show (xs.take k).flatMap ntc ++ ntc (g, now) = (xs.take k ++ [(g, now)]).flatMap ntc by simp)
        have ep : w7.cell? ⟨p, 0, none⟩ = some (.slice (some ⟨b, 0, none⟩) n kc) := by rw [hb7.cell (p := ⟨p, 0, none⟩) l0]; exact cpr
        have e0 : w7.cell? ⟨w.heap.size, 0, none⟩ = some (.string g) := by rw [hb7.cell (p := ⟨w.heap.size, 0, none⟩) l1]; exact z0
        have e1 : w7.cell? ⟨w.heap.size, 1, none⟩ = some (.int .i64 now) := by rw [hb7.cell (p := ⟨w.heap.size, 1, none⟩) l1]; exact z1
        have l3 : p < w7.heap.size := by omega
        have l4 : w.heap.size < w7.heap.size := by omega
        have hdl : (xs.drop k).length = n - k := by rw [List.length_drop, Hln.out]
        have Hdl := Lib.hid (show ((xs.drop k).flatMap ntc).length = (n - k) * 2 by rw [rows_length ntc 2 ntc_len, hdl])
        have hc5 : k + 1 + (n - k) ≤ maxLen := by unfold maxLen; omega
        have hc6 : (k + 1 + (n - k)) * 24 ≤ 140737488355328 := by omega
        clear hdl
        have Hkn := Lib.hid (show k + 1 + (n - k) = n + 1 by omega)
        obtain ⟨N', hN'⟩ : ∃ N', (xs.take k ++ (g, now) :: xs.drop k).length = N' := ⟨_, rfl⟩
        have HN' := Lib.hid hN'
        have HMl := Lib.hid (show k + 1 + (n - k) = (xs.take k ++ (g, now) :: xs.drop k).length by rw [List.length_append, List.length_cons, List.length_take, List.length_drop, Hln.out, Nat.min_eq_left hk]; omega)
        have HMf := Lib.hid (show (xs.take k ++ [(g, now)]).flatMap ntc ++ (xs.drop k).flatMap ntc = (xs.take k ++ (g, now) :: xs.drop k).flatMap ntc by simp)
        clear hN'
        go_wp2_with (first
          | ((at_builtin; refine wpList_append_own _ rfl (.tmp 64) (.tmp 66) 26 rfl W.heap.size 57 i0 _ 2 24 Try.underlying26 Hi.out Hz0.out Hz1.out Hz2.out rfl (by decide) _ k ((xs.take k).flatMap ntc) rfl (HO7.out.alloc _) ⟨w7.heap.size, 0, none⟩ 1 1 (ntc (g, now)) rfl rfl (news_at _ _ _) (ntc_one _) hc3 hc4 (le_alloc hbx _) ?_; intro v1 w1 hown1 hgrow1 _; rw [Hrow.out] at hown1; have hB1 := own_below (HO7.out.alloc _) (HB7.out.alloc hbx _) (le_alloc hbx _) hgrow1; have HO1 := Lib.hid hown1; clear hown1 hgrow1); have ep1 : w1.cell? ⟨p, 0, none⟩ = some (.slice (some ⟨b, 0, none⟩) n kc) := (by rw [hB1.cell (p := ⟨p, 0, none⟩) (by show p < _; omega)]; exact cpW); have hz1 := hB1.size; have l5 : p < w1.heap.size := (by omega); have l6 : W.heap.size ≤ w1.heap.size := (by omega))
          | (at_builtin; refine wpList_append_src rfl (.tmp 69) (.tmp 75) 26 rfl W.heap.size 57 i0 _ 2 24 Try.underlying26 Hi.out Hz0.out Hz1.out Hz2.out rfl (by decide) _ (k + 1) ((xs.take k ++ [(g, now)]).flatMap ntc) rfl HO1.out (some ⟨b, k * 2, none⟩) (n - k) (kc - k) ((xs.drop k).flatMap ntc) rfl Hdl.out (HFr.out _ hB1) (fun e => by cases e) (flat_ones ntc_one _) hc5 hc6 l6 ?_; intro v2 w2 hown2 hgrow2; have hB2 := own_below HO1.out hB1 l6 hgrow2; have ep2 : w2.cell? ⟨p, 0, none⟩ = some (.slice (some ⟨b, 0, none⟩) n kc) := (by rw [hB2.cell (p := ⟨p, 0, none⟩) (by show p < _; omega)]; exact cpW); have hz2 := hB2.size; have l7 : p < w2.heap.size := (by omega); have fp2 : w2.frozen? ⟨p, 0, none⟩ = false := (by rw [(bcell hB2).2 p 0 (by omega), (bcell HW.out).2 p 0 hp]; exact fp); rw [HMl.out, HMf.out] at hown2; obtain ⟨sp2, cap2, e2, _⟩ := own_rows ntc_len hown2 (by decide); rw [HN'.out] at e2; subst e2; have HO2 := Lib.hid hown2; clear hown2 hgrow2))
        go_end0
        have hrep := HR.out.put hg (by unfold maxLen; omega) h0 h1 k Hlt.out HNl.out
        have hB2w := HW.out.trans (hB2.mono HW.out.size)
        have hpb := Hh.out.hp
        refine ⟨rfl, _, _, hrep, (by rw [← HMl.out, Hln.out]; exact Hkn.out), fun y hy => ?_, ⟨(Hh.out.row.below hB2w).set 0 _, ?_, ?_, Hh.out.hp⟩, (Only.of_below hB2w).setCell (.inl (by simp)) _, fun q hq => by have h1 := (own_lt HO2.out hq).1; omega⟩
        · rw [List.mem_append, List.mem_cons] at hy
          rcases hy with hy | rfl | hy
          · exact Hle.out y (List.mem_of_mem_take hy)
          · exact hs
          · exact Hle.out y (List.mem_of_mem_drop hy)
        · exact own_same (own_base HO2.out (by omega)) fun q hq => Below.heap_setCell _ _ _ _ (fun e => by have h1 := (own_lt HO2.out hq).1; simp only at e; omega)
        · intro hq
          have h1 := (own_lt HO2.out hq).1
          omega
end Go.Proofs.Yteccmjbgedmfhaa
