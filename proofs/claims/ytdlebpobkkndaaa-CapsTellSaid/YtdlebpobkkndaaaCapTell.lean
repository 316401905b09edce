/-
  CapsTell: whether any caps are right, any right machines are within them, and how many more there may be, is as the document says. For any caps, any machines and any machine; no condition.
-/
import Derived.Test.YtdlebpobkkndaaaCapW2
namespace Go.Proofs.Ytdlebpobkkndaaa
open Go.ChangeShapes Go.WideShapes Go.ChangeAt Go.RowKit
set_option linter.unusedVariables false
namespace capsTell

set_option maxRecDepth 100000 in
set_option maxHeartbeats 4000000 in
theorem walk_no (c0 c1 c2 : Int) (c : Option Addr) (kc : Nat) (ms : List Mac) (like : Mac) (w : World) (hF : MacsAt w c ms) (hm : ms.length ≤ maxLen) (hA : ∀ x ∈ ms, MacAt w x) (hL : MacAt w like) (hr : rightAll c0 c1 c2 ms like = false) :
    Calls Try.prog 3 #[.agg #[.int .i64 c0, .int .i64 c1, .int .i64 c2], .slice c ms.length kc, .agg #[.string (like).nm, .string (like).gp, .int .i64 (like).r0, .int .i64 (like).r1, .int .i64 (like).r2, .int .i64 (like).r3, .int .i64 (like).r4, .slice (like).la (like).labs.length (like).lk, .slice (like).ta (like).tnts.length (like).tk, .bool (like).rd]] w fun e w' => e = .returned (.bool true) ∧ Below w.heap.size w w' := by
  have Hr := Lib.hid hr
  clear hr
  obtain ⟨W, hW⟩ : ∃ W, W = (w.alloc (.cells #[.int .i64 c0, .int .i64 c1, .int .i64 c2] 23)).alloc (.cells #[.string like.nm, .string like.gp, .int .i64 like.r0, .int .i64 like.r1, .int .i64 like.r2, .int .i64 like.r3, .int .i64 like.r4, .slice like.la like.labs.length like.lk, .slice like.ta like.tnts.length like.tk, .bool like.rd] 30) := ⟨_, rfl⟩
  have HBW := Lib.hid (show Below w.heap.size w W by rw [hW]; (repeat' (first | with_reducible exact Below.refl _ _ | with_reducible assumption | with_reducible refine Below.drew ?_ | with_reducible refine below_drewN' ?_ _ | with_reducible refine Below.alloc ?_ ?_ _ | with_reducible refine Below.setCell ?_ ?_ _ | with_reducible refine below_step (by assumption) ?_ ?_ | omega | (simp; done) | (simp; omega))))
  have hWz : w.heap.size + 1 < W.heap.size := by rw [hW]; simp
  have hWz0 : w.heap.size < W.heap.size := by omega
  have x0 : W.cell? ⟨w.heap.size, 0, none⟩ = some (.int .i64 c0) := by rw [hW]; simp [go_sem]
  have x1 : W.cell? ⟨w.heap.size, 1, none⟩ = some (.int .i64 c1) := by rw [hW]; simp [go_sem]
  have x2 : W.cell? ⟨w.heap.size, 2, none⟩ = some (.int .i64 c2) := by rw [hW]; simp [go_sem]
  have y0 : W.cell? ⟨w.heap.size + 1, 0, none⟩ = some (.string like.nm) := by rw [hW]; simp [go_sem]
  have y1 : W.cell? ⟨w.heap.size + 1, 1, none⟩ = some (.string like.gp) := by rw [hW]; simp [go_sem]
  have y2 : W.cell? ⟨w.heap.size + 1, 2, none⟩ = some (.int .i64 like.r0) := by rw [hW]; simp [go_sem]
  have y3 : W.cell? ⟨w.heap.size + 1, 3, none⟩ = some (.int .i64 like.r1) := by rw [hW]; simp [go_sem]
  have y4 : W.cell? ⟨w.heap.size + 1, 4, none⟩ = some (.int .i64 like.r2) := by rw [hW]; simp [go_sem]
  have y5 : W.cell? ⟨w.heap.size + 1, 5, none⟩ = some (.int .i64 like.r3) := by rw [hW]; simp [go_sem]
  have y6 : W.cell? ⟨w.heap.size + 1, 6, none⟩ = some (.int .i64 like.r4) := by rw [hW]; simp [go_sem]
  have y7 : W.cell? ⟨w.heap.size + 1, 7, none⟩ = some (.slice like.la like.labs.length like.lk) := by rw [hW]; simp [go_sem]
  have y8 : W.cell? ⟨w.heap.size + 1, 8, none⟩ = some (.slice like.ta like.tnts.length like.tk) := by rw [hW]; simp [go_sem]
  have y9 : W.cell? ⟨w.heap.size + 1, 9, none⟩ = some (.bool like.rd) := by rw [hW]; simp [go_sem]
  have HFW := Lib.hid (hF.mono HBW.out)
  have HAW := Lib.hid (fun x hx => (hA x hx).mono HBW.out)
  have HLW := Lib.hid (hL.mono HBW.out)
  have A1 := fun V : World => rightc_any c0 c1 c2 V
  have A2 := fun V : World => right23_any c0 c1 c2 V
  cases hB : rightC c0 c1 c2
  all_goals
    rw [hB] at A1 A2
    have HA1 := Lib.hid A1
    have HA2 := Lib.hid A2
    clear A1 A2 hB
    go_enter Try.func3, Try.ntmps3
    go_upto_region 1 with (fail)
    rw [← hW]
    clear hW
    have hcH := held_cell
    refine region_below (by kernel_rfl) (by kernel_rfl) ?_
    repeat
      ((with_reducible refine wpQuiet_step (fun K hK => ?_))
       go_simp
       first
         | ((with_reducible refine hK _ ?_); clear hK K)
         | (apply Exists.intro
            (with_reducible refine ⟨fun n => ?_, hK _ ?_⟩)
            (first | (go_at_call 6; exact held_calls (HA1.out _)) | (go_at_call 7; exact held_calls (HA2.out _)))
            clear hK K))
    with_reducible refine wpQuiet_nil ?_
    intro w1 hw2
    clear hcH
    obtain ⟨⟨_, hb1⟩, rfl⟩ := hw2
    (try dsimp only)
    obtain ⟨hc1, hf1⟩ := bcell hb1
    have hz1 := hb1.size
    (try simp at hz1)
    have z1_0 : w.heap.size < w1.heap.size := (by omega); have y1_0 : w.heap.size ≤ w1.heap.size := (by omega); have z1_1 : w.heap.size + 1 < w1.heap.size := (by omega); have y1_1 : w.heap.size + 1 ≤ w1.heap.size := (by omega)
    go_wp2_with (first | (go_at_call 8; (with_reducible refine (rightall_any c0 c1 c2 c kc ms like _ (HFW.out.mono hb1) hm (fun x hx => (HAW.out x hx).mono hb1) (HLW.out.mono hb1)).mono ?_); rw [Hr.out]; rintro e w2 ⟨rfl, hb2⟩; have hz2 := hb2.size) | (go_at_call 9; (with_reducible refine (known_any _).mono ?_); rintro e w3 ⟨rfl, hb3⟩; have hz3 := hb3.size))
    go_ret
    exact ⟨rfl, HBW.out.trans (Below.mono (hb1.trans (by (repeat' (first | with_reducible exact Below.refl _ _ | with_reducible assumption | with_reducible refine Below.drew ?_ | with_reducible refine below_drewN' ?_ _ | with_reducible refine Below.alloc ?_ ?_ _ | with_reducible refine Below.setCell ?_ ?_ _ | with_reducible refine below_step (by assumption) ?_ ?_ | omega | (simp; done) | (simp; omega))))) (Nat.le_of_lt hWz0))⟩

set_option maxRecDepth 100000 in
set_option maxHeartbeats 4000000 in
theorem walk_yes (c0 c1 c2 : Int) (c : Option Addr) (kc : Nat) (ms : List Mac) (like : Mac) (w : World) (hn : NilOk c ms.length kc) (hF : MacsAt w c ms) (hA : ∀ x ∈ ms, MacAt w x) (hL : MacAt w like) (hr : rightAll c0 c1 c2 ms like = true) :
    Calls Try.prog 3 #[.agg #[.int .i64 c0, .int .i64 c1, .int .i64 c2], .slice c ms.length kc, .agg #[.string (like).nm, .string (like).gp, .int .i64 (like).r0, .int .i64 (like).r1, .int .i64 (like).r2, .int .i64 (like).r3, .int .i64 (like).r4, .slice (like).la (like).labs.length (like).lk, .slice (like).ta (like).tnts.length (like).tk, .bool (like).rd]] w fun e w' => e = .returned (.bool true) ∧ Below w.heap.size w w' := by
  obtain ⟨hm30, hcc, hlk, hok⟩ := rightAll_ok hr
  have Hr := Lib.hid hr
  obtain ⟨W, hW⟩ : ∃ W, W = (w.alloc (.cells #[.int .i64 c0, .int .i64 c1, .int .i64 c2] 23)).alloc (.cells #[.string like.nm, .string like.gp, .int .i64 like.r0, .int .i64 like.r1, .int .i64 like.r2, .int .i64 like.r3, .int .i64 like.r4, .slice like.la like.labs.length like.lk, .slice like.ta like.tnts.length like.tk, .bool like.rd] 30) := ⟨_, rfl⟩
  have HBW := Lib.hid (show Below w.heap.size w W by rw [hW]; (repeat' (first | with_reducible exact Below.refl _ _ | with_reducible assumption | with_reducible refine Below.drew ?_ | with_reducible refine below_drewN' ?_ _ | with_reducible refine Below.alloc ?_ ?_ _ | with_reducible refine Below.setCell ?_ ?_ _ | with_reducible refine below_step (by assumption) ?_ ?_ | omega | (simp; done) | (simp; omega))))
  have hWz : w.heap.size + 1 < W.heap.size := by rw [hW]; simp
  have hWz0 : w.heap.size < W.heap.size := by omega
  have x0 : W.cell? ⟨w.heap.size, 0, none⟩ = some (.int .i64 c0) := by rw [hW]; simp [go_sem]
  have x1 : W.cell? ⟨w.heap.size, 1, none⟩ = some (.int .i64 c1) := by rw [hW]; simp [go_sem]
  have x2 : W.cell? ⟨w.heap.size, 2, none⟩ = some (.int .i64 c2) := by rw [hW]; simp [go_sem]
  have y0 : W.cell? ⟨w.heap.size + 1, 0, none⟩ = some (.string like.nm) := by rw [hW]; simp [go_sem]
  have y1 : W.cell? ⟨w.heap.size + 1, 1, none⟩ = some (.string like.gp) := by rw [hW]; simp [go_sem]
  have y2 : W.cell? ⟨w.heap.size + 1, 2, none⟩ = some (.int .i64 like.r0) := by rw [hW]; simp [go_sem]
  have y3 : W.cell? ⟨w.heap.size + 1, 3, none⟩ = some (.int .i64 like.r1) := by rw [hW]; simp [go_sem]
  have y4 : W.cell? ⟨w.heap.size + 1, 4, none⟩ = some (.int .i64 like.r2) := by rw [hW]; simp [go_sem]
  have y5 : W.cell? ⟨w.heap.size + 1, 5, none⟩ = some (.int .i64 like.r3) := by rw [hW]; simp [go_sem]
  have y6 : W.cell? ⟨w.heap.size + 1, 6, none⟩ = some (.int .i64 like.r4) := by rw [hW]; simp [go_sem]
  have y7 : W.cell? ⟨w.heap.size + 1, 7, none⟩ = some (.slice like.la like.labs.length like.lk) := by rw [hW]; simp [go_sem]
  have y8 : W.cell? ⟨w.heap.size + 1, 8, none⟩ = some (.slice like.ta like.tnts.length like.tk) := by rw [hW]; simp [go_sem]
  have y9 : W.cell? ⟨w.heap.size + 1, 9, none⟩ = some (.bool like.rd) := by rw [hW]; simp [go_sem]
  have HFW := Lib.hid (hF.mono HBW.out)
  have HAW := Lib.hid (fun x hx => (hA x hx).mono HBW.out)
  have HLW := Lib.hid (hL.mono HBW.out)
  have A1 := fun V : World => rightc_any c0 c1 c2 V
  have A2 := fun V : World => right23_any c0 c1 c2 V
  rw [hcc] at A1 A2
  have A3 := fun (V : World) (h : MacsAt V c ms) => within_any c0 c1 c2 hcc c kc ms V h hok (by omega)
  have A4 := fun (V : World) (h : MacsAt V c ms) => refwithin_any c0 c1 c2 hcc c kc ms V h hok (by omega)
  have A5 := fun (V : World) (h : MacsAt V c ms) => roomc_any c0 c1 c2 hcc c kc ms like V h hok hlk (by omega)
  have A6 := fun (V : World) (h : MacsAt V c ms) => refroom_any c0 c1 c2 hcc c kc ms like V hn h hok hlk hm30
  have A7 := fun (V : World) (h : MacsAt V c ms) (h2 : ∀ x ∈ ms, MacAt V x) (h3 : MacAt V like) => rightall_any c0 c1 c2 c kc ms like V h (by unfold maxLen; omega) h2 h3
  obtain ⟨K, eK⟩ : ∃ K, roomV c0 c1 c2 ms like = K := ⟨_, rfl⟩
  simp only [eK] at A5 A6
  simp only [hr] at A7
  cases hw : withinB c0 c1 c2 ms
  all_goals
    rw [hw] at A3 A4
    have HA1 := Lib.hid A1
    have HA2 := Lib.hid A2
    have HA3 := Lib.hid A3
    have HA4 := Lib.hid A4
    have HA5 := Lib.hid A5
    have HA6 := Lib.hid A6
    have HA7 := Lib.hid A7
    clear A1 A2 A3 A4 A5 A6 A7 hw hok hlk hcc hr hF hA hL hn eK
    go_enter Try.func3, Try.ntmps3
    go_upto_region 1 with (fail)
    rw [← hW]
    clear hW
    have hcH := held_cell
    refine region_below (by kernel_rfl) (by kernel_rfl) ?_
    repeat
      ((with_reducible refine wpQuiet_step (fun K hK => ?_))
       go_simp
       first
         | ((with_reducible refine hK _ ?_); clear hK K)
         | (apply Exists.intro
            (with_reducible refine ⟨fun n => ?_, hK _ ?_⟩)
            (first | (go_at_call 6; exact held_calls (HA1.out _)) | (go_at_call 7; exact held_calls (HA2.out _)))
            clear hK K))
    with_reducible refine wpQuiet_nil ?_
    intro w1 hw2
    clear hcH
    obtain ⟨⟨_, hb1⟩, rfl⟩ := hw2
    (try dsimp only)
    obtain ⟨hc1, hf1⟩ := bcell hb1
    have hz1 := hb1.size
    (try simp at hz1)
    have z1_0 : w.heap.size < w1.heap.size := (by omega); have y1_0 : w.heap.size ≤ w1.heap.size := (by omega); have z1_1 : w.heap.size + 1 < w1.heap.size := (by omega); have y1_1 : w.heap.size + 1 ≤ w1.heap.size := (by omega)
    go_wp2_with (go_at_call 8; (with_reducible refine (HA7.out _ (HFW.out.mono hb1) (fun x hx => (HAW.out x hx).mono hb1) (HLW.out.mono hb1)).mono ?_); rintro e w2 ⟨rfl, hb2⟩; have hz2 := hb2.size)
    obtain ⟨hc2, hf2⟩ := bcell hb2
    have z2_0 : w.heap.size < w2.heap.size := (by omega); have y2_0 : w.heap.size ≤ w2.heap.size := (by omega); have z2_1 : w.heap.size + 1 < w2.heap.size := (by omega); have y2_1 : w.heap.size + 1 ≤ w2.heap.size := (by omega)
    have HB2 := Lib.hid (hb1.trans (hb2.mono hb1.size))
    have HF2 := Lib.hid (HFW.out.mono HB2.out)
    have hcH := held_cell
    refine region_below (by kernel_rfl) (by kernel_rfl) ?_
    repeat
      ((with_reducible refine wpQuiet_step (fun K hK => ?_))
       go_simp
       first
         | ((with_reducible refine hK _ ?_); clear hK K)
         | (apply Exists.intro
            (with_reducible refine ⟨fun n => ?_, hK _ ?_⟩)
            (first | (go_at_call 10; exact held_calls (HA3.out n.w (HF2.out.mono n.below))) | (go_at_call 11; exact held_calls (HA4.out n.w (HF2.out.mono n.below))) | (go_at_call 12; exact held_calls (HA5.out n.w (HF2.out.mono n.below))) | (go_at_call 13; exact held_calls (HA6.out n.w (HF2.out.mono n.below))) | (go_at_call 9; exact held_calls (known_any _)))
            clear hK K))
    with_reducible refine wpQuiet_nil ?_
    intro w3 hw2
    clear hcH
    obtain ⟨⟨_, hb3⟩, rfl⟩ := hw2
    (try dsimp only)
    obtain ⟨hc3, hf3⟩ := bcell hb3
    have hz3 := hb3.size
    (try simp at hz3)
    go_wp2
    go_ret
    exact ⟨rfl, HBW.out.trans (Below.mono (HB2.out.trans (hb3.mono HB2.out.size)) (Nat.le_of_lt hWz0))⟩

theorem walk {H : Type} {enc : TypeId × Value → H} {W : World} {base : Nat} {v u x : Value} {d f g : DataW H} {p q r : List MemPlace}
    (hv : Value.okWide Try.prog W .any base 23 v) (h : DataW.Trod enc Try.prog W 0 (fun _ => true) true 23 v d p)
    (hu : Value.okWide Try.prog W .any base 24 u) (k : DataW.Trod enc Try.prog W 0 (fun _ => true) true 24 u f q)
    (hx : Value.okWide Try.prog W .any base 30 x) (l : DataW.Trod enc Try.prog W 0 (fun _ => true) true 30 x g r) :
    Calls Try.prog 3 #[v, u, x] W fun e W' => e = .returned (.bool true) ∧ Below W.heap.size W W' := by
  obtain ⟨c0, c1, c2, rfl⟩ := open_caps hv h
  obtain ⟨a, ms, kc, rfl, hn, hF, hm, hA⟩ := open_macs hu k
  obtain ⟨like, rfl, hL⟩ := open_mac hx l
  cases hr : rightAll c0 c1 c2 ms like
  · exact walk_no c0 c1 c2 a kc ms like W hF hm hA hL hr
  · exact walk_yes c0 c1 c2 a kc ms like W hn hF hA hL hr

set_option maxRecDepth 100000 in
theorem lifted (os : Os) (started : os.Started) (H : Type) (enc : TypeId × Value → H) :
    ReturnsInHanded {} Try.checked os 3 .any (Rows.capsTellSpec.pre6 enc Try.prog Try.f3 Rows.capsTellRow.domain false) (Rows.capsTellSpec.post enc Try.prog Try.f3 false true false false) := by
  refine returnsInHanded_of_change (C := Try.checked) Try.own started (by kernel_rfl) Try.func3
    (ChangeSpec.witness6 (enc := enc) (C := Try.checked) false ⟨#[], #[.agg #[.int .i64 0, .int .i64 0, .int .i64 0], .slice none 0 0, .agg #[.string ⟨#[]⟩, .string ⟨#[]⟩, .int .i64 0, .int .i64 0, .int .i64 0, .int .i64 0, .int .i64 0, .slice none 0 0, .slice none 0 0, .bool false]], []⟩ 8 (by kernel_rfl) (by kernel_rfl) (by kernel_rfl) (by kernel_rfl)) ?_
  intro W base args ds gs before hval hW _ _
  have hW' := hW
  obtain ⟨p, q, hA, hV, rfl, hfz, hnd⟩ := hW
  rw [Try.params3] at hA hval
  obtain ⟨v0, v1, v2, d0, d1, d2, p0, p1, p2, rfl, rfl, rfl, h0, h1, h2⟩ := trodAll_three hA
  refine (walk (hval 0 23 v0 rfl rfl) h0 (hval 1 24 v1 rfl rfl) h1 (hval 2 30 v2 rfl rfl) h2).mono fun e W' ⟨he, hb⟩ => ?_
  exact ⟨_, he, law_post Try.laidOut hW' rfl (by kernel_rfl) (by kernel_rfl) Try.underlying4 rfl rfl rfl hb⟩

theorem over : Rows.capsTellRow.holds Try.pinned (OpenSpec.ofChange Rows.capsTellSpec) :=
  OpenClaim.holds_of_wide 3 Try.f3 rfl rfl rfl rfl rfl rfl rfl ⟨rfl, rfl, rfl, rfl, rfl⟩ rfl rfl rfl rfl rfl (by kernel_rfl) Try.func3 (by kernel_rfl)
    (of_decide_eq_true (by kernel_rfl)) (by unfold Func.isWrapper; first | (rw [if_pos (by decide +kernel)]; kernel_rfl) | (rw [if_neg (by decide +kernel)]; exact ⟨rfl, rfl⟩))
    (fun os started H enc _ => lifted os started H enc)

/-- The statement. -/
theorem proved : Rows.CapsTellSaid := over
end capsTell
end Go.Proofs.Ytdlebpobkkndaaa
