/-
  The document's table: put, at any table.
-/
import Derived.Test.YteccmjbgedmfhaaTmRf3
namespace Go.Proofs.Yteccmjbgedmfhaa
open Go.RowKit
set_option linter.unusedVariables false
set_option linter.unusedSimpArgs false

set_option maxRecDepth 100000 in
set_option maxHeartbeats 8000000 in
theorem rput_nil (base p : Nat) (T : ByteArray → Option Int) (g : ByteArray) (now : Int) (w : World) (h : RT w base p [] (.slice none 0 0)) (hr : Rep T []) (hg : T g = none) (hs : g.size ≤ 1000000000) (h0 : 0 ≤ now) (h1 : now ≤ 1099511627776) :
    Calls Try.prog 28 #[.pointer (some ⟨p, 0, none⟩), .agg #[.string g, .int .i64 now]] w fun e w' => e = .returned (.tuple #[]) ∧ ∃ M' v', Rep (updT T g (some now)) M' ∧ M'.length = ([] : List Nt).length + 1 ∧ (∀ x ∈ M', x.1.size ≤ 1000000000) ∧ RT w' base p M' v' ∧ Only [p] w w' ∧ ∀ q, v'.ownBlock = some q → w.heap.size ≤ q := by
  have Hh := Lib.hid h
  have HR := Lib.hid hr
  have cp := h.row.cell 0
  dsimp only [List.getElem?_cons_zero] at cp
  have fp := h.row.frozen 0
  have hp := h.row.lt
  clear h hr
  obtain ⟨i0, hi, hz0, hz1, hz2⟩ := info_parts Try.info57
  have Hi := Lib.hid hi
  have Hz0 := Lib.hid hz0
  have Hz1 := Lib.hid hz1
  have Hz2 := Lib.hid hz2
  clear hi hz0 hz1 hz2
  go_enter Try.func28, Try.ntmps28
  go_wp2
  obtain ⟨W, hW⟩ : ∃ W, W = w.alloc (.cells #[.string g, .int .i64 now] 57) := ⟨_, rfl⟩
  have hbW : Below w.heap.size w W := by rw [hW]; (repeat' (first | with_reducible exact Below.refl _ _ | with_reducible assumption | with_reducible refine Below.drew ?_ | with_reducible refine below_drewN' ?_ _ | with_reducible refine Below.alloc ?_ ?_ _ | with_reducible refine Below.setCell ?_ ?_ _ | with_reducible refine below_step (by assumption) ?_ ?_ | omega | (simp; done) | (simp; omega)))
  have hWz : W.heap.size = w.heap.size + 1 := by rw [hW]; simp
  have y0 : W.cell? ⟨w.heap.size, 0, none⟩ = some (.string g) := by rw [hW]; exact World.cell?_alloc_at _ _ _ _ rfl
  have y1 : W.cell? ⟨w.heap.size, 1, none⟩ = some (.int .i64 now) := by rw [hW]; exact World.cell?_alloc_at _ _ _ _ rfl
  have cpW : W.cell? ⟨p, 0, none⟩ = some (.slice none 0 0) := by rw [hbW.cell (p := ⟨p, 0, none⟩) hp]; exact cp
  have HW := Lib.hid hbW
  have l0 : p < W.heap.size := by omega
  have l1 : w.heap.size < W.heap.size := by omega
  rw [← hW]
  clear hW hbW cp
  refine wp_loop_rounds 1 ?_
  rw [rounds_succ]
  go_wp2
  have hcH := held_cell
  refine region_below (by kernel_rfl) (by kernel_rfl) ?_
  repeat
    ((with_reducible refine wpQuiet_step (fun K hK => ?_))
     go_simp
     first
       | ((with_reducible refine hK _ ?_); clear hK K)
       | ((refine if_no (fun h => by (have h2 : (none : Option Bool) = some true := h); cases h2) ?_); (with_reducible refine hK _ ?_); clear hK K)
       | ((refine if_no (fun h => by (have h2 : (none : Option Bool) = some false := h); cases h2) ?_); (with_reducible refine hK _ ?_); clear hK K)
       | (apply Exists.intro
          (with_reducible refine ⟨fun n => ?_, hK _ ?_⟩)
          (fail)
          clear hK K))
  with_reducible refine wpQuiet_nil ?_
  intro w7 hw2
  clear hcH
  obtain ⟨⟨_, hb7⟩, rfl⟩ := hw2
  (try dsimp only)
  obtain ⟨hc7, hf7⟩ := bcell hb7
  have hz7 := hb7.size
  (try simp at hz7)
  have HB7 := Lib.hid hb7
  have HO7 := Lib.hid (World.ownsRow_nil w7 W.heap.size 57 2)
  have hbx : W.heap.size ≤ w7.heap.size := by omega
  have ep : w7.cell? ⟨p, 0, none⟩ = some (.slice none 0 0) := by rw [hb7.cell (p := ⟨p, 0, none⟩) l0]; exact cpW
  have e0 : w7.cell? ⟨w.heap.size, 0, none⟩ = some (.string g) := by rw [hb7.cell (p := ⟨w.heap.size, 0, none⟩) l1]; exact y0
  have e1 : w7.cell? ⟨w.heap.size, 1, none⟩ = some (.int .i64 now) := by rw [hb7.cell (p := ⟨w.heap.size, 1, none⟩) l1]; exact y1
  have l3 : p < w7.heap.size := by omega
  have l4 : w.heap.size < w7.heap.size := by omega
  have hc5 : ([(g, now)] : List Nt).length + 0 ≤ maxLen := by show 1 + 0 ≤ maxLen; decide
  have hc6 : (([(g, now)] : List Nt).length + 0) * 24 ≤ 140737488355328 := by show (1 + 0) * 24 ≤ 140737488355328; decide
  go_wp2_with (first
    | (at_builtin; refine wpList_append_own _ rfl (.tmp 64) (.tmp 66) 26 rfl W.heap.size 57 i0 _ 2 24 Try.underlying26 Hi.out Hz0.out Hz1.out Hz2.out rfl (by decide) _ 0 [] rfl (HO7.out.alloc _) ⟨w7.heap.size, 0, none⟩ 1 1 (ntc (g, now)) rfl rfl (news_at _ _ _) (ntc_one _) (by decide) (by decide) (le_alloc hbx _) ?_; intro v1 w1 hown1 hgrow1 _; have hB1 := own_below (HO7.out.alloc _) (HB7.out.alloc hbx _) (le_alloc hbx _) hgrow1; have hz1 := hB1.size; have ep1 : w1.cell? ⟨p, 0, none⟩ = some (.slice none 0 0) := (by rw [hB1.cell (p := ⟨p, 0, none⟩) l0]; exact cpW); have l5 : p < w1.heap.size := (by omega); have l6 : W.heap.size ≤ w1.heap.size := (by omega); have HO1 := Lib.hid (show w1.ownsRow W.heap.size 57 2 v1 ([(g, now)] : List Nt).length (([(g, now)] : List Nt).flatMap ntc) from hown1); clear hown1 hgrow1)
    | (at_builtin; refine wpList_append_src rfl (.tmp 69) (.tmp 75) 26 rfl W.heap.size 57 i0 _ 2 24 Try.underlying26 Hi.out Hz0.out Hz1.out Hz2.out rfl (by decide) _ ([(g, now)] : List Nt).length (([(g, now)] : List Nt).flatMap ntc) rfl HO1.out none 0 0 [] rfl rfl (fun q e => by cases e) (fun _ => ⟨rfl, rfl⟩) (fun u hu => by cases hu) hc5 hc6 l6 ?_; intro v2 w2 hown2 hgrow2; have hB2 := own_below HO1.out hB1 l6 hgrow2; have ep2 : w2.cell? ⟨p, 0, none⟩ = some (.slice none 0 0) := (by rw [hB2.cell (p := ⟨p, 0, none⟩) l0]; exact cpW); have hz2 := hB2.size; have l7 : p < w2.heap.size := (by omega); have fp2 : w2.frozen? ⟨p, 0, none⟩ = false := (by rw [(bcell hB2).2 p 0 l0, (bcell HW.out).2 p 0 hp]; exact fp); have hown3 : w2.ownsRow W.heap.size 57 2 v2 ([(g, now)] : List Nt).length (([(g, now)] : List Nt).flatMap ntc) := (by rw [List.append_nil] at hown2; exact hown2); obtain ⟨sp2, cap2, e2, _⟩ := own_rows ntc_len hown3 (by decide); (have e3 : v2 = .slice sp2 1 cap2 := e2); clear e2; subst e3; have HO2 := Lib.hid hown3; clear hown2 hgrow2 hown3))
  go_end0
  have hrep := HR.out.put hg (by unfold maxLen; omega) h0 h1 0 (by simp) (fun x hx => by simp at hx)
  have hB2w := HW.out.trans (hB2.mono HW.out.size)
  have hpb := Hh.out.hp
  refine ⟨rfl, [(g, now)], _, hrep, rfl, fun y hy => ?_, ⟨(Hh.out.row.below hB2w).set 0 _, ?_, ?_, Hh.out.hp⟩, (Only.of_below hB2w).setCell (.inl (by simp)) _, fun q hq => by have h1 := (own_lt HO2.out hq).1; omega⟩
  · obtain rfl : y = (g, now) := by simpa using hy
    exact hs
  · exact own_same (own_base HO2.out (by omega)) fun q hq => Below.heap_setCell _ _ _ _ (fun e => by have h1 := (own_lt HO2.out hq).1; simp only at e; omega)
  · intro hq
    have h1 := (own_lt HO2.out hq).1
    omega

theorem rput_any (base p : Nat) (T : ByteArray → Option Int) (M : List Nt) (v : Value) (g : ByteArray) (now : Int) (w : World) (h : RT w base p M v) (hr : Rep T M) (hm : M.length ≤ 1000000) (hg : T g = none) (hs : g.size ≤ 1000000000) (h0 : 0 ≤ now) (h1 : now ≤ 1099511627776) (hle : ∀ x ∈ M, x.1.size ≤ 1000000000) :
    Calls Try.prog 28 #[.pointer (some ⟨p, 0, none⟩), .agg #[.string g, .int .i64 now]] w fun e w' => e = .returned (.tuple #[]) ∧ ∃ M' v', Rep (updT T g (some now)) M' ∧ M'.length = M.length + 1 ∧ (∀ x ∈ M', x.1.size ≤ 1000000000) ∧ RT w' base p M' v' ∧ Only [p] w w' ∧ ∀ q, v'.ownBlock = some q → w.heap.size ≤ q := by
  rcases h.own.2 with ⟨e, hl⟩ | ⟨b, cap, cur, e, hb, h1', h2, _⟩
  · have e2 : M = [] := by
      cases M with
      | nil => rfl
      | cons x M => simp at hl
    subst e e2
    exact rput_nil base p T g now w h hr hg hs h0 h1
  · subst e
    exact rput_some base p b cap T M g now w h hr hm hg hs h0 h1 hle h2 (Array.getElem?_eq_some_iff.1 h1').1
end Go.Proofs.Yteccmjbgedmfhaa
