/-
  Show.
-/
import Derived.Test.YtlndfognkkobaaaTrI
namespace Go.Proofs.Ytlndfognkkobaaa
open Go.RowKit
set_option linter.unusedVariables false
set_option linter.unusedSimpArgs false

/-- Trees, a line each. -/
def topsL : Fo → List UInt8
  | .nil => []
  | .cons x k r => showT x (showL false k) ++ (10 :: topsL r)
set_option maxRecDepth 100000 in
set_option maxHeartbeats 2000000 in
theorem shw1_any (X Y1 : Nat) (s : Value) (i : Nat) (L T : List UInt8) (w : World) (h : Blk w Y1 22 [s]) (hb : IsBld w X X L) (hL : L.length + T.length ≤ 900000000)
    (hIH : ∀ V : World, Fr X TB w V → IsBld V X X L → Calls Try.prog 28 #[.pointer (some ⟨X, 0, none⟩), s, .int .i64 (i : Int)] V fun e w' => e = .returned (.tuple #[]) ∧ IsBld w' X X (L ++ T) ∧ Fr X TB V w') :
    Calls Try.prog 27 #[.int .i64 (i : Int), .pointer (some ⟨X, 0, none⟩), .pointer (some ⟨Y1, 0, none⟩)] w fun e w' => e = .returned (.tuple #[]) ∧ IsBld w' X X (L ++ (T ++ [10])) ∧ Fr X TB w w' := by
  have c4 := h.cell 0
  have l4 := h.lt
  dsimp only [List.getElem?_cons_zero] at c4
  have HB := Lib.hid hb
  have HI := Lib.hid hIH
  have K10 := Lib.hid (show (10 : Int) = (((10 : UInt8).toNat : Nat) : Int) from rfl)
  have HL := Lib.hid (show (L ++ T).length ≤ 1000000000 by rw [List.length_append]; omega)
  clear h hb hIH
  go_enter Try.func27, Try.ntmps27
  go_wp2_with (first
    | (go_at_call 28; (with_reducible refine (HI.out _ Fr.refl HB.out).mono ?_); rintro e w6 ⟨rfl, hI, hF⟩; have HI6 := Lib.hid hI; have HF6 := Lib.hid hF; clear hI hF)
    | (go_at_call 29; (with_reducible refine (bbyte_any X X (L ++ T) 10 10 K10.out _ HI6.out HL.out (Nat.le_of_lt (HI6.out).lt.1)).mono ?_); rintro e w7 ⟨rfl, hI, hF⟩; have HI7 := Lib.hid hI; have HF7 := Lib.hid (HF6.out.trans hF); clear hI hF))
  go_end0
  refine ⟨rfl, ?_, HF7.out⟩
  rw [← List.append_assoc]
  exact HI7.out
theorem tops_show (a : Option Addr) (ka : Nat) (l : List Nd) (f : Fo) (X Y1 : Nat) (w0 : World) (hl : l.length ≤ 100000) (ht : ∀ y ∈ l, y.tx.size ≤ 30000) (h : l = f.flat) (hw : f.Wf) (hF : ∀ V, Fr X TB w0 V → NdL V a l) (hS : Blk w0 Y1 22 [.slice a l.length ka]) (hb : IsBld w0 X X []) (hz : (topsL f).length ≤ 900000000) :
    Calls Try.prog 22 #[.slice a l.length ka, .int .i64 0, .int .i64 (l.length : Int), .func (.func 27) #[] #[.pointer (some ⟨X, 0, none⟩), .pointer (some ⟨Y1, 0, none⟩)]] w0 fun e w' => e = .returned (.bool true) ∧ IsBld w' X X (topsL f) ∧ Fr X TB w0 w' := by
  have h' : l = [] ++ (f.flat ++ []) := by rw [List.append_nil]; exact h
  have hlen : 0 + f.flat.length = l.length := by rw [h, Nat.zero_add]
  refine (each_any a ka l 27 #[.pointer (some ⟨X, 0, none⟩), .pointer (some ⟨Y1, 0, none⟩)] (fun g w' => Fr X TB w0 w' ∧ ∃ done, IsBld w' X X done ∧ done ++ topsL g = topsL f) [] f [] l.length w0 (by omega) h' hw (.inl hlen) (by omega) ?_ ?_ ?_ ?_ ?_).mono ?_
  · rintro g w' ⟨hf, _⟩
    exact hF _ hf
  · rintro g w' w'' ⟨hf, done, hk, e⟩ hb
    exact ⟨hf.trans (Fr.of_below hb), done, hk.below hb, e⟩
  · rintro x k r Q w' e1 hw2 ⟨hf, done, hk2, e2⟩
    have e3 : l = Q ++ ((Fo.cons x k .nil).flat ++ (r.flat ++ [])) := by
      rw [e1]
      show Q ++ (x :: (k.flat ++ r.flat) ++ []) = Q ++ (x :: (k.flat ++ []) ++ (r.flat ++ []))
      simp only [List.append_nil, List.cons_append, List.append_assoc]
    have e2 : done ++ (showT x (showL false k) ++ (10 :: topsL r)) = topsL f := e2
    have hz2 := congrArg List.length e2
    simp only [List.length_append, List.length_cons] at hz2
    refine (shw1_any X Y1 (.slice a l.length ka) Q.length done (showT x (showL false k)) w' (blk_fr hS hf (by decide) (by decide)) hk2 (by omega) fun V hV hbV => ?_).mono ?_
    · exact show_tree _ a ka l Q x k (r.flat ++ []) X done V (Nat.lt_succ_self _) (fun V' hV' => hF V' ((hf.trans hV).trans hV')) hl ht e3 ⟨hw2.1, hw2.2.1, trivial⟩ hbV (by omega)
    · rintro e w'' ⟨rfl, hb3, hf3⟩
      refine ⟨rfl, hf.trans hf3, _, hb3, ?_⟩
      rw [← e2]
      simp only [List.append_assoc, List.cons_append, List.nil_append]
  · exact enters_of Try.func27 (by kernel_rfl) rfl
  · exact ⟨Fr.refl, [], hb, rfl⟩
  · rintro e w' ⟨rfl, hf, done, hk2, e2⟩
    refine ⟨by rw [show decide (([] : List Nd).length + f.flat.length = l.length) = true from decide_eq_true hlen], ?_, hf⟩
    have e2 : done ++ [] = topsL f := e2
    rw [List.append_nil] at e2
    rw [← e2]
    exact hk2
set_option maxRecDepth 100000 in
set_option maxHeartbeats 4000000 in
theorem Show_any (a : Option Addr) (ka : Nat) (l : List Nd) (f : Fo) (rest : List Nd) (w : World) (hF : NdL w a l) (hl : l.length ≤ 100000) (ht : ∀ y ∈ l, y.tx.size ≤ 30000) (h : l = f.flat ++ rest) (hw : f.Wf) (hr : rest = [] ∨ (rest ≠ [] ∧ fin rest 1 = none)) (hz : (topsL f).length ≤ 900000000) :
    Calls Try.prog 11 #[.slice a l.length ka] w fun e w' => e = .returned (.string (if checkI l f rest = 0 then toB (topsL f) else emp)) ∧ Below w.heap.size w w' := by
  have HC := Lib.hid (fun (V : World) (hV : NdL V a l) => check_any a ka l f rest V hV hl ht h hw hr)
  have HF := Lib.hid hF
  obtain ⟨W, hW⟩ : ∃ W, W = w.alloc (.cells #[.slice a l.length ka] 22) := ⟨_, rfl⟩
  have hBW : Below w.heap.size w W := by rw [hW]; exact (Below.refl _ w).alloc (Nat.le_refl _) _
  have hbx : Blk W w.heap.size 22 [.slice a l.length ka] := by rw [hW]; exact Blk.new w _ [.slice a l.length ka]
  have HBW := Lib.hid hBW
  have HBx := Lib.hid hbx
  have x1 := hbx.cell 0
  have y1 := hbx.lt
  dsimp only [List.getElem?_cons_zero] at x1
  obtain ⟨c, hc⟩ : ∃ c, checkI l f rest = c := ⟨_, rfl⟩
  by_cases h0 : c = 0
  · have hrest : rest = [] := by
      rw [← hc] at h0
      unfold checkI at h0
      split at h0
      · rename_i h1
        exact h1.2
      · cases h0
    have HE := Lib.hid (fun (X Y1 : Nat) (w0 : World) (hF : ∀ V, Fr X TB w0 V → NdL V a l) (hS : Blk w0 Y1 22 [.slice a l.length ka]) (hb : IsBld w0 X X []) => tops_show a ka l f X Y1 w0 hl ht (by rw [h, hrest, List.append_nil]) hw hF hS hb hz)
    rw [hc] at HC ⊢
    subst h0
    rw [if_pos rfl]
    have HWe := Lib.hid hW
    clear hc h hw hr hz hrest hF ht hW hBW hbx
    go_enter Try.func11, Try.ntmps11
    go_upto_region 1 with (fail)
    rw [← HWe.out]
    clear HWe
    go_upto_region 4 with (go_at_call 9; (with_reducible refine (HC.out _ (HF.out.mono HBW.out)).mono ?_); rintro e w2 ⟨rfl, hb⟩; have HB2 := Lib.hid hb; have HBx2 := Lib.hid (HBx.out.below hb); have x12 := HBx2.out.cell 0; have y12 := HBx2.out.lt; (dsimp only [List.getElem?_cons_zero] at x12); clear hb)
    obtain ⟨V, hV⟩ : ∃ V, V = w2.alloc (.cells #[.pointer none, .slice none 0 0] 48) := ⟨_, rfl⟩
    rw [← hV]
    have hb0 : IsBld V w2.heap.size w2.heap.size [] := by rw [hV]; exact bld_new w2
    have hB2V : Below w2.heap.size w2 V := by rw [hV]; exact (Below.refl _ w2).alloc (Nat.le_refl _) _
    have hbx2 := HBx2.out.below hB2V
    have x13 := hbx2.cell 0
    have y13 := hbx2.lt
    dsimp only [List.getElem?_cons_zero] at x13
    obtain ⟨X, hX⟩ : ∃ X, w2.heap.size = X := ⟨_, rfl⟩
    rw [hX] at hb0 hB2V ⊢
    have HX := Lib.hid hX
    have HBW2 := Lib.hid (show Below w.heap.size w w2 from HBW.out.trans (HB2.out.mono HBW.out.size))
    have HFV := Lib.hid (fun (V' : World) (hV' : Fr X TB V V') => HF.out.mono (HBW2.out.trans ((hV'.below hB2V (Nat.le_refl _) (Nat.le_of_lt hb0.lt.1)).mono (by have := HBW2.out.size; omega))))
    have HEc := Lib.hid (HE.out X w.heap.size V HFV.out hbx2 hb0)
    have HVB := Lib.hid (show Below w.heap.size w V from HBW2.out.trans (hB2V.mono (by have := HBW2.out.size; omega)))
    have hwX : w.heap.size ≤ X := by have := HBW2.out.size; omega
    have HwX := Lib.hid hwX
    have HBx0 := Lib.hid hb0
    clear hV hb0 hB2V hbx2 hX x12 y12 hwX
    go_wp2_with (first
      | ((with_reducible refine HEc.out.mono ?_); rintro e w6 ⟨rfl, hI, hF⟩; have HI6 := Lib.hid hI; have HB6 := Lib.hid (hF.below HVB.out HwX.out (by have := HVB.out.size; omega)); clear hI hF)
      | (go_at_call 30; (with_reducible refine (bstring_any X X (topsL f) _ HI6.out (Nat.le_of_lt (HI6.out).lt.1)).mono ?_); rintro e w7 ⟨rfl, hb7⟩; have HB7 := Lib.hid (HB6.out.trans (hb7.mono HwX.out)); clear hb7))
    go_ret
    exact ⟨rfl, HB7.out⟩
  · have n0 : (c != 0) = true := by simpa using h0
    rw [hc] at HC ⊢
    rw [if_neg h0]
    have HWe := Lib.hid hW
    clear hc h hw hr hz hF ht hW hBW hbx h0
    go_enter Try.func11, Try.ntmps11
    go_upto_region 1 with (fail)
    rw [← HWe.out]
    clear HWe
    go_wp2_with (go_at_call 9; (with_reducible refine (HC.out _ (HF.out.mono HBW.out)).mono ?_); rintro e w2 ⟨rfl, hb⟩; have HB2 := Lib.hid (HBW.out.trans (hb.mono HBW.out.size)); clear hb)
    go_ret
    exact ⟨rfl, HB2.out⟩
end Go.Proofs.Ytlndfognkkobaaa
