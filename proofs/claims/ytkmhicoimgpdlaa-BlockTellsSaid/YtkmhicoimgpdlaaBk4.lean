/-
  Block: what known calls; right without budgets.
-/
import Derived.Test.YtkmhicoimgpdlaaBk3
import Derived.Test.YtkmhicoimgpdlaaNJ
namespace Go.Proofs.Ytkmhicoimgpdlaa
open Go.RowKit
set_option linter.unusedVariables false
set_option linter.unusedSimpArgs false

def mB (x : ByteArray) : Mac := ⟨x, ⟨#[103]⟩, 1000, 0, 0, 5, 0, none, 0, [], none, 0, [], true⟩
def pB : Pd := pK ⟨#[112]⟩ 300
def dB : Pd := { pK ⟨#[100]⟩ 100 with dm := true }
def msB : List Mac := [mB ⟨#[109]⟩, mB ⟨#[110]⟩]
def bsB : List Bd := [⟨pB, ⟨#[109]⟩⟩, ⟨dB, ⟨#[110]⟩⟩]
set_option maxRecDepth 100000 in
theorem kb_use : useB (mB ⟨#[109]⟩) bsB = 300 := by kernel_rfl
set_option maxRecDepth 100000 in
theorem kb_mov1 : (movL bsB ⟨#[109]⟩).length = 1 ∧ blkN (movL bsB ⟨#[109]⟩) = ⟨#[112]⟩ ∧ blkE (movL bsB ⟨#[109]⟩) = 22 := ⟨by kernel_rfl, by kernel_rfl, by kernel_rfl⟩
set_option maxRecDepth 100000 in
theorem kb_mov2 : movL bsB ⟨#[110]⟩ = [] := by kernel_rfl
set_option maxRecDepth 100000 in
theorem kb_idle : idleL msB bsB 300 = [⟨#[110]⟩] := by kernel_rfl
set_option maxRecDepth 100000 in
theorem kb_empty : emptyL msB bsB = [⟨#[110]⟩] := by kernel_rfl
/-- What known has. -/
structure KB (w V : World) : Prop where
  ml : MacL V (some ⟨w.heap.size, 0, none⟩) msB
  bl : BndL V (some ⟨w.heap.size + 1, 0, none⟩) bsB
  be : Below w.heap.size w V
theorem KB.mono {w V V' : World} (h : KB w V) (hb : Below V.heap.size V V') : KB w V' := ⟨h.ml.mono hb, h.bl.mono hb, h.be.trans (hb.mono h.be.size)⟩
theorem kb_c1 {w V : World} (h : KB w V) : Calls Try.prog 11 #[.agg #[.string ⟨#[109]⟩, .string ⟨#[103]⟩, .int .i64 1000, .int .i64 0, .int .i64 0, .int .i64 5, .int .i64 0, .slice none 0 0, .slice none 0 0, .bool true], .slice (some ⟨w.heap.size + 1, 0, none⟩) 2 2] V fun e w' => e = .returned (.int .i64 300) ∧ Below V.heap.size V w' := by
  have h9 := use_any (mB ⟨#[109]⟩) _ 2 bsB V h.bl (by show 2 ≤ 1000000; decide)
  rw [kb_use] at h9
  exact h9
theorem kb_c2 {w V : World} (h : KB w V) : Calls Try.prog 13 #[.slice (some ⟨w.heap.size + 1, 0, none⟩) 2 2, .string ⟨#[109]⟩] V fun e w' => (∃ a k, e = .returned (.slice a 1 k)) ∧ Below V.heap.size V w' :=
  (movable_any _ 2 bsB ⟨#[109]⟩ V h.bl (by show 2 ≤ 1000000; decide)).mono fun e w' h9 => by
    obtain ⟨⟨v, rfl, hv⟩, hb⟩ := h9
    obtain ⟨a, k, rfl⟩ := own_sl hv
    exact ⟨⟨a, k, by rw [kb_mov1.1]⟩, hb⟩
theorem kb_c3 {w V : World} (h : KB w V) : Calls Try.prog 13 #[.slice (some ⟨w.heap.size + 1, 0, none⟩) 2 2, .string ⟨#[110]⟩] V fun e w' => (∃ a k, e = .returned (.slice a 0 k)) ∧ Below V.heap.size V w' :=
  (movable_any _ 2 bsB ⟨#[110]⟩ V h.bl (by show 2 ≤ 1000000; decide)).mono fun e w' h9 => by
    obtain ⟨⟨v, rfl, hv⟩, hb⟩ := h9
    obtain ⟨a, k, rfl⟩ := own_sl hv
    exact ⟨⟨a, k, by rw [kb_mov2]; rfl⟩, hb⟩
theorem kb_c4 {w V : World} (h : KB w V) : Calls Try.prog 12 #[.slice (some ⟨w.heap.size + 1, 0, none⟩) 2 2, .slice none 0 0, .string ⟨#[109]⟩] V fun e w' => e = .returned (.tuple #[.string ⟨#[112]⟩, .int .i64 22]) ∧ Below V.heap.size V w' := by
  have h9 := bwhy_any _ 2 bsB none 0 0 ⟨#[109]⟩ V h.bl (by show 2 ≤ 1000000; decide) (.inr kb_mov1.2.2)
  rw [kb_mov1.2.1, kb_mov1.2.2] at h9
  exact h9
theorem kb_c5 {w V : World} (h : KB w V) : Calls Try.prog 12 #[.slice (some ⟨w.heap.size + 1, 0, none⟩) 2 2, .slice none 0 0, .string ⟨#[110]⟩] V fun e w' => e = .returned (.tuple #[.string ⟨#[]⟩, .int .i64 0]) ∧ Below V.heap.size V w' := by
  have h9 := bwhy_any _ 2 bsB none 0 0 ⟨#[110]⟩ V h.bl (by show 2 ≤ 1000000; decide) (.inl kb_mov2)
  rw [kb_mov2] at h9
  exact h9
theorem kb_c6 {w V : World} (h : KB w V) : Calls Try.prog 9 #[.slice (some ⟨w.heap.size, 0, none⟩) 2 2, .slice (some ⟨w.heap.size + 1, 0, none⟩) 2 2, .int .i64 300] V fun e w' => (∃ a k, e = .returned (.slice a 1 k) ∧ TxtL w' a [⟨#[110]⟩]) ∧ Below V.heap.size V w' :=
  (idle_any _ _ 2 2 msB bsB 300 V h.ml h.bl (by show 2 ≤ 1000000; decide) (by show 2 ≤ 1000000; decide)).mono fun e w' h9 => by
    rw [kb_idle] at h9
    obtain ⟨⟨v, rfl, hv⟩, hb⟩ := h9
    obtain ⟨a, k, rfl, -, ht⟩ := IsL.of_own scs_len (by decide) hv
    exact ⟨⟨a, k, rfl, ht⟩, hb⟩
theorem kb_c7 {w V : World} (h : KB w V) : Calls Try.prog 22 #[.slice (some ⟨w.heap.size, 0, none⟩) 2 2, .slice (some ⟨w.heap.size + 1, 0, none⟩) 2 2] V fun e w' => (∃ a k, e = .returned (.slice a 1 k) ∧ TxtL w' a [⟨#[110]⟩]) ∧ Below V.heap.size V w' :=
  (empty_any _ _ 2 2 msB bsB V h.ml h.bl (by show 2 ≤ 1000000; decide) (by show 2 ≤ 1000000; decide)).mono fun e w' h9 => by
    rw [kb_empty] at h9
    obtain ⟨⟨v, rfl, hv⟩, hb⟩ := h9
    obtain ⟨a, k, rfl, -, ht⟩ := IsL.of_own scs_len (by decide) hv
    exact ⟨⟨a, k, rfl, ht⟩, hb⟩
theorem kb_texts {V : World} {a : Option Addr} (h : TxtL V a [⟨#[110]⟩]) (k : Nat) (t : TypeId) : Calls Try.prog 20 #[.slice a 1 k, .slice (some ⟨V.heap.size, 0, none⟩) 1 1] (V.alloc (.cells #[.string ⟨#[110]⟩] t)) fun e w' => e = .returned (.bool true) ∧ Below (V.alloc (.cells #[.string ⟨#[110]⟩] t)).heap.size (V.alloc (.cells #[.string ⟨#[110]⟩] t)) w' := by
  have hb : Below V.heap.size V (V.alloc (.cells #[.string ⟨#[110]⟩] t)) := (Below.refl _ _).alloc (Nat.le_refl _) _
  have h9 := texts_any a (some ⟨V.heap.size, 0, none⟩) k 1 [⟨#[110]⟩] [⟨#[110]⟩] (V.alloc (.cells #[.string ⟨#[110]⟩] t)) (h.mono hb) (RowsAt.new scs_len V [⟨#[110]⟩] t) (by show 1 ≤ 1000000; decide) (by show 1 ≤ 1000000; decide)
  rw [decide_eq_true rfl] at h9
  exact h9
theorem KB.rng {w V : World} (h : KB w V) : V.rangeAt w.heap.size 0 [.string ⟨#[109]⟩, .string ⟨#[103]⟩, .int .i64 1000, .int .i64 0, .int .i64 0, .int .i64 5, .int .i64 0, .slice none 0 0, .slice none 0 0, .bool true] := fun j v hj => by
  obtain ⟨b, o, e, hb, hc⟩ := h.ml (by show 0 < 2; decide)
  injection e with e
  injection e with e1 e2
  subst e1 e2
  have hj10 : j < 10 := (List.getElem?_eq_some_iff.1 hj).1
  have h9 := hc 0 (mB ⟨#[109]⟩) rfl j hj10
  rw [Nat.zero_mul] at h9
  exact h9.trans hj
set_option maxRecDepth 100000 in
set_option maxHeartbeats 8000000 in
theorem bknown_any (w : World) :
    Calls Try.prog 8 #[] w fun e w' => e = .returned (.bool true) ∧ Below w.heap.size w w' := by
  obtain ⟨W, hW⟩ : ∃ W, W = (w.alloc (.cells #[.string ⟨#[109]⟩, .string ⟨#[103]⟩, .int .i64 1000, .int .i64 0, .int .i64 0, .int .i64 5, .int .i64 0, .slice none 0 0, .slice none 0 0, .bool true, .string ⟨#[110]⟩, .string ⟨#[103]⟩, .int .i64 1000, .int .i64 0, .int .i64 0, .int .i64 5, .int .i64 0, .slice none 0 0, .slice none 0 0, .bool true] 35)).alloc (.cells #[.string ⟨#[112]⟩, .int .i64 300, .int .i64 0, .int .i64 0, .int .i64 1, .int .i64 0, .slice none 0 0, .slice none 0 0, .slice none 0 0, .slice none 0 0, .slice none 0 0, .slice none 0 0, .bool false, .slice none 0 0, .int .i64 0, .int .i64 0, .string ⟨#[]⟩, .bool false, .bool false, .bool false, .string ⟨#[109]⟩, .string ⟨#[100]⟩, .int .i64 100, .int .i64 0, .int .i64 0, .int .i64 1, .int .i64 0, .slice none 0 0, .slice none 0 0, .slice none 0 0, .slice none 0 0, .slice none 0 0, .slice none 0 0, .bool false, .slice none 0 0, .int .i64 0, .int .i64 0, .string ⟨#[]⟩, .bool true, .bool false, .bool false, .string ⟨#[110]⟩] 64) := ⟨_, rfl⟩
  have hb1 : Below w.heap.size w (w.alloc (.cells #[.string ⟨#[109]⟩, .string ⟨#[103]⟩, .int .i64 1000, .int .i64 0, .int .i64 0, .int .i64 5, .int .i64 0, .slice none 0 0, .slice none 0 0, .bool true, .string ⟨#[110]⟩, .string ⟨#[103]⟩, .int .i64 1000, .int .i64 0, .int .i64 0, .int .i64 5, .int .i64 0, .slice none 0 0, .slice none 0 0, .bool true] 35)) := (Below.refl _ _).alloc (Nat.le_refl _) _
  have H0 := Lib.hid (show KB w W by
    rw [hW]
    refine ⟨?_, ?_, hb1.alloc hb1.size _⟩
    · have h9 : MacL (w.alloc (.cells #[.string ⟨#[109]⟩, .string ⟨#[103]⟩, .int .i64 1000, .int .i64 0, .int .i64 0, .int .i64 5, .int .i64 0, .slice none 0 0, .slice none 0 0, .bool true, .string ⟨#[110]⟩, .string ⟨#[103]⟩, .int .i64 1000, .int .i64 0, .int .i64 0, .int .i64 5, .int .i64 0, .slice none 0 0, .slice none 0 0, .bool true] 35)) (some ⟨w.heap.size, 0, none⟩) msB := RowsAt.new (enc := mrow) (K := 10) (fun _ => rfl) w msB 35
      exact h9.mono ((Below.refl _ _).alloc (Nat.le_refl _) _)
    · have h9 : BndL ((w.alloc (.cells #[.string ⟨#[109]⟩, .string ⟨#[103]⟩, .int .i64 1000, .int .i64 0, .int .i64 0, .int .i64 5, .int .i64 0, .slice none 0 0, .slice none 0 0, .bool true, .string ⟨#[110]⟩, .string ⟨#[103]⟩, .int .i64 1000, .int .i64 0, .int .i64 0, .int .i64 5, .int .i64 0, .slice none 0 0, .slice none 0 0, .bool true] 35)).alloc (.cells #[.string ⟨#[112]⟩, .int .i64 300, .int .i64 0, .int .i64 0, .int .i64 1, .int .i64 0, .slice none 0 0, .slice none 0 0, .slice none 0 0, .slice none 0 0, .slice none 0 0, .slice none 0 0, .bool false, .slice none 0 0, .int .i64 0, .int .i64 0, .string ⟨#[]⟩, .bool false, .bool false, .bool false, .string ⟨#[109]⟩, .string ⟨#[100]⟩, .int .i64 100, .int .i64 0, .int .i64 0, .int .i64 1, .int .i64 0, .slice none 0 0, .slice none 0 0, .slice none 0 0, .slice none 0 0, .slice none 0 0, .slice none 0 0, .bool false, .slice none 0 0, .int .i64 0, .int .i64 0, .string ⟨#[]⟩, .bool true, .bool false, .bool false, .string ⟨#[110]⟩] 64)) (some ⟨(w.alloc (.cells #[.string ⟨#[109]⟩, .string ⟨#[103]⟩, .int .i64 1000, .int .i64 0, .int .i64 0, .int .i64 5, .int .i64 0, .slice none 0 0, .slice none 0 0, .bool true, .string ⟨#[110]⟩, .string ⟨#[103]⟩, .int .i64 1000, .int .i64 0, .int .i64 0, .int .i64 5, .int .i64 0, .slice none 0 0, .slice none 0 0, .bool true] 35)).heap.size, 0, none⟩) bsB := RowsAt.new (enc := brow) (K := 21) (fun _ => rfl) (w.alloc (.cells #[.string ⟨#[109]⟩, .string ⟨#[103]⟩, .int .i64 1000, .int .i64 0, .int .i64 0, .int .i64 5, .int .i64 0, .slice none 0 0, .slice none 0 0, .bool true, .string ⟨#[110]⟩, .string ⟨#[103]⟩, .int .i64 1000, .int .i64 0, .int .i64 0, .int .i64 5, .int .i64 0, .slice none 0 0, .slice none 0 0, .bool true] 35)) bsB 64
      rw [World.size_alloc] at h9
      exact h9)
  clear hb1
  go_enter Try.func8, Try.ntmps8
  go_upto_region 3 with (fail)
  rw [← hW]
  clear hW
  go_wp2_with (first
    | ((with_reducible refine at_load (ty := 35) ?_); refine load_cells rfl 35 (.tmp 30) rfl w.heap.size 0 rfl [.string ⟨#[109]⟩, .string ⟨#[103]⟩, .int .i64 1000, .int .i64 0, .int .i64 0, .int .i64 5, .int .i64 0, .slice none 0 0, .slice none 0 0, .bool true] _ Try.underlying35 rfl (by kernel_rfl) H0.out.rng ?_)
    | (go_at_call 12; (first | (with_reducible refine (kb_c4 H0.out).mono ?_) | (with_reducible refine (kb_c5 H0.out).mono ?_)); rintro e w4 ⟨rfl, hb⟩; have HD := Lib.hid (H0.out.mono hb); clear H0 hb; have H0 := HD; clear HD)
    | (go_at_call 11; (with_reducible refine (kb_c1 H0.out).mono ?_); rintro e w4 ⟨rfl, hb⟩; have HD := Lib.hid (H0.out.mono hb); clear H0 hb; have H0 := HD; clear HD)
    | (go_at_call 13; (first | (with_reducible refine (kb_c2 H0.out).mono ?_) | (with_reducible refine (kb_c3 H0.out).mono ?_)); rintro e w4 ⟨⟨a4, k4, rfl⟩, hb⟩; have HD := Lib.hid (H0.out.mono hb); clear H0 hb; have H0 := HD; clear HD)
    | (go_at_call 9; (with_reducible refine (kb_c6 H0.out).mono ?_); rintro e w6 ⟨⟨a6, k6, rfl, ht6⟩, hb⟩; have HT6 := Lib.hid ht6; have HD := Lib.hid (H0.out.mono hb); clear H0 hb ht6; have H0 := HD; clear HD)
    | (go_at_call 22; (with_reducible refine (kb_c7 H0.out).mono ?_); rintro e w6 ⟨⟨a6, k6, rfl, ht6⟩, hb⟩; have HT6 := Lib.hid ht6; have HD := Lib.hid (H0.out.mono hb); clear H0 hb ht6; have H0 := HD; clear HD)
    | (go_at_call 20; (with_reducible refine (kb_texts HT6.out _ _).mono ?_); rintro e w7 ⟨rfl, hb⟩; have HD := Lib.hid (H0.out.mono (((Below.refl _ _).alloc (Nat.le_refl _) _).trans (hb.mono (by simp)))); clear H0 hb HT6; have H0 := HD; clear HD))
  go_ret
  exact ⟨rfl, H0.out.be⟩
set_option maxRecDepth 100000 in
set_option maxHeartbeats 4000000 in
theorem blight_none (w : World) :
    Calls Try.prog 25 #[.slice none 0 0] w fun e w' => e = .returned (.bool true) ∧ Below w.heap.size w w' := by
  go_enter Try.func25, Try.ntmps25
  go_wp2
  go_loopw [3] (fun vi wr => vi = .int .i64 0 ∧ wr = w) (fun _ _ => 0)
  case atStart => exact ⟨rfl, rfl⟩
  case round =>
    obtain ⟨rfl, rfl⟩ := hrel
    go_wp2
    go_ret
    exact ⟨rfl, Below.refl _ _⟩
set_option maxRecDepth 100000 in
set_option maxHeartbeats 4000000 in
theorem bright_none (w : World) :
    Calls Try.prog 27 #[.slice none 0 0] w fun e w' => e = .returned (.bool true) ∧ Below w.heap.size w w' := by
  go_enter Try.func27, Try.ntmps27
  go_wp2
  go_loopw [3] (fun vi wr => vi = .int .i64 0 ∧ wr = w) (fun _ _ => 0)
  case atStart => exact ⟨rfl, rfl⟩
  case round =>
    obtain ⟨rfl, rfl⟩ := hrel
    go_wp2
    go_ret
    exact ⟨rfl, Below.refl _ _⟩
def rightY (ms : List Mac) (bs : List Bd) : Bool := lightY ms bs && decide (checkY ms bs = 0)
set_option maxRecDepth 100000 in
set_option maxHeartbeats 4000000 in
theorem bright0_any (a c : Option Addr) (ka kc : Nat) (ms : List Mac) (bs : List Bd) (w : World) (hF : MacL w a ms) (hG : BndL w c bs) (hA : ∀ m ∈ ms, MacIn w m) (hB : ∀ b ∈ bs, BndIn w b) (hl : ms.length ≤ maxLen) (hl2 : bs.length ≤ maxLen) :
    Calls Try.prog 7 #[.slice a ms.length ka, .slice c bs.length kc, .slice none 0 0] w fun e w' => e = .returned (.bool (rightY ms bs)) ∧ Below w.heap.size w w' := by
  have hLi := lighty_any a ka ms c kc bs w hF hG hA hB hl hl2
  have hCk := fun (h : lightY ms bs = true) V (hV : Below w.heap.size w V) => rcheck_any a ka ms c kc bs V (hF.mono hV) (hG.mono hV) (fun m hm => (hA m hm).mono hV) (fun b hb => (hB b hb).mono hV) (lightY_iff h).2.2.1 (fun b hb => ((lightY_iff h).2.2.2 b hb).1) (by have := (lightY_iff h).1; omega) (by have := (lightY_iff h).2.1; omega)
  obtain ⟨R, hR⟩ : ∃ R, rightY ms bs = R := ⟨_, rfl⟩
  rw [hR]
  unfold rightY at hR
  obtain ⟨b1, h1⟩ : ∃ b, lightY ms bs = b := ⟨_, rfl⟩
  obtain ⟨E, h3⟩ : ∃ b, checkY ms bs = b := ⟨_, rfl⟩
  rw [h1, h3] at hR
  rw [h1] at hLi
  simp only [h1, h3] at hCk
  generalize ms.length = n at hLi hCk ⊢
  generalize bs.length = N at hLi hCk ⊢
  have HLi := Lib.hid hLi
  clear hLi h1 h3 hF hG hA hB hl hl2
  cases b1 with
  | false =>
    obtain rfl : R = false := by rw [← hR]; rfl
    clear hR hCk
    go_enter Try.func7, Try.ntmps7
    go_wp2_with (go_at_call 24; (with_reducible refine (HLi.out).mono ?_); rintro e w1 ⟨rfl, hb⟩; have HB1 := Lib.hid hb; clear hb)
    go_ret
    exact ⟨rfl, HB1.out⟩
  | true =>
    have HCk := Lib.hid (hCk rfl)
    clear hCk
    by_cases he : E = 0
    · subst he
      obtain rfl : R = true := by rw [← hR]; rfl
      clear hR
      go_enter Try.func7, Try.ntmps7
      go_wp2_with (first
        | (go_at_call 24; (with_reducible refine (HLi.out).mono ?_); rintro e w1 ⟨rfl, hb⟩; have HB1 := Lib.hid hb; clear hb)
        | (go_at_call 25; (with_reducible refine (blight_none _).mono ?_); rintro e w2 ⟨rfl, hb⟩; have HB2 := Lib.hid (HB1.out.trans (hb.mono HB1.out.size)); clear hb)
        | (go_at_call 26; (with_reducible refine (HCk.out _ HB2.out).mono ?_); rintro e w3 ⟨rfl, hb⟩; have HB3 := Lib.hid (HB2.out.trans (hb.mono HB2.out.size)); clear hb)
        | (go_at_call 27; (with_reducible refine (bright_none _).mono ?_); rintro e w4 ⟨rfl, hb⟩; have HB4 := Lib.hid (HB3.out.trans (hb.mono HB3.out.size)); clear hb))
      go_ret
      exact ⟨rfl, HB4.out⟩
    · have q0 : (E == 0) = false := by simpa using he
      obtain rfl : R = false := by rw [← hR, decide_eq_false he]; rfl
      clear hR
      go_enter Try.func7, Try.ntmps7
      go_wp2_with (first
        | (go_at_call 24; (with_reducible refine (HLi.out).mono ?_); rintro e w1 ⟨rfl, hb⟩; have HB1 := Lib.hid hb; clear hb)
        | (go_at_call 25; (with_reducible refine (blight_none _).mono ?_); rintro e w2 ⟨rfl, hb⟩; have HB2 := Lib.hid (HB1.out.trans (hb.mono HB1.out.size)); clear hb)
        | (go_at_call 26; (with_reducible refine (HCk.out _ HB2.out).mono ?_); rintro e w3 ⟨rfl, hb⟩; have HB3 := Lib.hid (HB2.out.trans (hb.mono HB2.out.size)); clear hb)
        | (go_at_call 27; (with_reducible refine (bright_none _).mono ?_); rintro e w4 ⟨rfl, hb⟩; have HB4 := Lib.hid (HB3.out.trans (hb.mono HB3.out.size)); clear hb))
      go_ret
      exact ⟨rfl, HB3.out⟩
end Go.Proofs.Ytkmhicoimgpdlaa
