/-
  show: a tree's text, into a builder.
-/
import Derived.Test.YtlndfognkkobaaaTrG
import Derived.Test.YtlndfognkkobaaaLexH
import Derived.Deep.Cut
namespace Go.Proofs.Ytlndfognkkobaaa
open Go.RowKit
set_option linter.unusedVariables false
set_option linter.unusedSimpArgs false

def showT (x : Nd) (b : List UInt8) : List UInt8 :=
  if x.kd = 3 then x.tx.toList else if x.kd = 4 then (quoteB x.tx).toList else if x.kd = 5 then 40 :: (b ++ [41]) else []
/-- Trees, a blank ahead of each but the first. -/
def showL : Bool → Fo → List UInt8
  | _, .nil => []
  | q, .cons x k r => (if q then [32] else []) ++ (showT x (showL false k) ++ showL true r)
/-- Boxes: the builder, the nodes, the place. -/
structure SQ (X Y3 Y4 Y5 : Nat) (s : Value) (p : Nat) (w : World) : Prop where
  b3 : Blk w Y3 45 [.pointer (some ⟨X, 0, none⟩)]
  b4 : Blk w Y4 22 [s]
  b5 : Blk w Y5 3 [.int .i64 (p : Int)]
theorem blk_fr {w w' : World} {X b : Nat} {t : TypeId} {cs : List Value} (h : Blk w b t cs) (hf : Fr X TB w w') (h1 : t ≠ 48) (h2 : t ≠ 5) : Blk w' b t cs :=
  h.same (hf.block b h.lt (.inr fun q hq hm => by
    rcases List.mem_cons.1 hq with rfl | hq
    · exact (blk_ty h).ne hm h1 rfl
    rcases List.mem_cons.1 hq with rfl | hq
    · exact (blk_ty h).ne hm h2 rfl
    cases hq))
theorem SQ.fr {w w' : World} {X Y3 Y4 Y5 p : Nat} {s : Value} (h : SQ X Y3 Y4 Y5 s p w) (hf : Fr X TB w w') : SQ X Y3 Y4 Y5 s p w' :=
  ⟨blk_fr h.b3 hf (by decide) (by decide), blk_fr h.b4 hf (by decide) (by decide), blk_fr h.b5 hf (by decide) (by decide)⟩
set_option maxRecDepth 100000 in
set_option maxHeartbeats 2000000 in
theorem sh1_any (X Y3 Y4 Y5 : Nat) (s : Value) (p i : Nat) (L T : List UInt8) (w : World) (h : SQ X Y3 Y4 Y5 s p w) (hb : IsBld w X X L) (hp : p ≤ 1000000) (hL : L.length ≤ 900000000)
    (hIH : ∀ V : World, Fr X TB w V → IsBld V X X (L ++ if p + 1 < i then [32] else []) → Calls Try.prog 28 #[.pointer (some ⟨X, 0, none⟩), s, .int .i64 (i : Int)] V fun e w' => e = .returned (.tuple #[]) ∧ IsBld w' X X ((L ++ if p + 1 < i then [32] else []) ++ T) ∧ Fr X TB V w') :
    Calls Try.prog 44 #[.int .i64 (i : Int), .pointer (some ⟨Y5, 0, none⟩), .pointer (some ⟨Y3, 0, none⟩), .pointer (some ⟨Y4, 0, none⟩)] w fun e w' => e = .returned (.tuple #[]) ∧ IsBld w' X X (L ++ ((if p + 1 < i then [32] else []) ++ T)) ∧ Fr X TB w w' := by
  have c3 := h.b3.cell 0
  have c4 := h.b4.cell 0
  have c5 := h.b5.cell 0
  have l3 := h.b3.lt
  have l4 := h.b4.lt
  have l5 := h.b5.lt
  dsimp only [List.getElem?_cons_zero] at c3 c4 c5
  have HH := Lib.hid h
  have HB := Lib.hid hb
  have hXw : X ≤ w.heap.size := Nat.le_of_lt hb.lt.1
  have K32 := Lib.hid (show (32 : Int) = (((32 : UInt8).toNat : Nat) : Int) from rfl)
  have hL2 : L.length ≤ 1000000000 := by omega
  clear h hb
  by_cases hi : p + 1 < i
  · have k1 : decide ((p : Int) + 1 < (i : Int)) = true := decide_eq_true (by omega)
    rw [if_pos hi] at hIH ⊢
    have HI := Lib.hid hIH
    clear hi hIH
    go_enter Try.func44, Try.ntmps44
    go_wp2_with (first
      | (go_at_call 29; (with_reducible refine (bbyte_any X X L 32 32 K32.out _ HB.out hL2 hXw).mono ?_); rintro e w5 ⟨rfl, hI, hF⟩; have HI5 := Lib.hid hI; have HF5 := Lib.hid hF; have HH5 := Lib.hid (HH.out.fr hF); have c35 := HH5.out.b3.cell 0; have c45 := HH5.out.b4.cell 0; have l35 := HH5.out.b3.lt; have l45 := HH5.out.b4.lt; (dsimp only [List.getElem?_cons_zero] at c35 c45); clear hI hF)
      | (go_at_call 28; (with_reducible refine (HI.out _ HF5.out HI5.out).mono ?_); rintro e w6 ⟨rfl, hI, hF⟩; have HI6 := Lib.hid hI; have HF6 := Lib.hid (HF5.out.trans hF); clear hI hF))
    go_end0
    refine ⟨rfl, ?_, HF6.out⟩
    have h9 := HI6.out
    rw [List.append_assoc] at h9
    exact h9
  · have k1 : decide ((p : Int) + 1 < (i : Int)) = false := decide_eq_false (by omega)
    rw [if_neg hi] at hIH ⊢
    rw [List.append_nil] at hIH
    have HI := Lib.hid hIH
    clear hi hIH
    go_enter Try.func44, Try.ntmps44
    go_wp2_with (go_at_call 28; (with_reducible refine (HI.out _ Fr.refl HB.out).mono ?_); rintro e w6 ⟨rfl, hI, hF⟩; have HI6 := Lib.hid hI; have HF6 := Lib.hid hF; clear hI hF)
    go_end0
    exact ⟨rfl, HI6.out, HF6.out⟩
/-- What show does of a tree within a list. -/
def ShAt (n : Nat) : Prop := ∀ (a : Option Addr) (ka : Nat) (l P : List Nd) (x : Nd) (k : Fo) (rest : List Nd) (X : Nat) (L : List UInt8) (w : World), k.flat.length < n → (∀ V, Fr X TB w V → NdL V a l) → l.length ≤ 100000 → (∀ y ∈ l, y.tx.size ≤ 30000) → l = P ++ ((Fo.cons x k .nil).flat ++ rest) → (Fo.cons x k .nil).Wf → IsBld w X X L → L.length + (showT x (showL false k)).length ≤ 900000000 →
  Calls Try.prog 28 #[.pointer (some ⟨X, 0, none⟩), .slice a l.length ka, .int .i64 (P.length : Int)] w fun e w' => e = .returned (.tuple #[]) ∧ IsBld w' X X (L ++ showT x (showL false k)) ∧ Fr X TB w w'
theorem kids_show (n : Nat) (hn : ShAt n) (a : Option Addr) (ka : Nat) (l P : List Nd) (f : Fo) (rest : List Nd) (p X Y3 Y4 Y5 : Nat) (L : List UInt8) (w0 : World) (hp : P.length = p + 1) (hk : f.flat.length ≤ n) (hl : l.length ≤ 100000) (ht : ∀ y ∈ l, y.tx.size ≤ 30000) (h : l = P ++ (f.flat ++ rest)) (hw : f.Wf) (hF : ∀ V, Fr X TB w0 V → NdL V a l) (hS : SQ X Y3 Y4 Y5 (.slice a l.length ka) p w0) (hb : IsBld w0 X X L) (hz : L.length + (showL false f).length ≤ 900000000) :
    Calls Try.prog 22 #[.slice a l.length ka, .int .i64 (P.length : Int), .int .i64 ((P.length + f.flat.length : Nat) : Int), .func (.func 44) #[] #[.pointer (some ⟨Y5, 0, none⟩), .pointer (some ⟨Y3, 0, none⟩), .pointer (some ⟨Y4, 0, none⟩)]] w0 fun e w' => e = .returned (.bool true) ∧ IsBld w' X X (L ++ showL false f) ∧ Fr X TB w0 w' := by
  have hlen : l.length = P.length + f.flat.length + rest.length := by rw [h, List.length_append, List.length_append]; omega
  refine (each_any a ka l 44 #[.pointer (some ⟨Y5, 0, none⟩), .pointer (some ⟨Y3, 0, none⟩), .pointer (some ⟨Y4, 0, none⟩)] (fun g w' => g.flat.length ≤ f.flat.length ∧ Fr X TB w0 w' ∧ ∃ done, IsBld w' X X (L ++ done) ∧ done ++ showL (decide (P.length < P.length + f.flat.length - g.flat.length)) g = showL false f) P f rest (P.length + f.flat.length) w0 (by omega) h hw (.inl rfl) (by omega) ?_ ?_ ?_ ?_ ?_).mono ?_
  · rintro g w' ⟨_, hf, _⟩
    exact hF _ hf
  · rintro g w' w'' ⟨hg, hf, done, hk, e⟩ hb
    exact ⟨hg, hf.trans (Fr.of_below hb), done, hk.below hb, e⟩
  · rintro x k r Q w' e1 hw2 ⟨hg, hf, done, hk2, e2⟩
    have hfl : (Fo.cons x k r).flat.length = 1 + k.flat.length + r.flat.length := by
      show (x :: (k.flat ++ r.flat)).length = _
      rw [List.length_cons, List.length_append]
      omega
    have hq : l.length = Q.length + (1 + k.flat.length + r.flat.length) + rest.length := by
      rw [e1, List.length_append, List.length_append, hfl]
      omega
    rw [hfl] at hg e2
    have hpos : P.length + f.flat.length - (1 + k.flat.length + r.flat.length) = Q.length := by omega
    rw [hpos] at e2
    have e3 : l = Q ++ ((Fo.cons x k .nil).flat ++ (r.flat ++ rest)) := by
      rw [e1]
      show Q ++ (x :: (k.flat ++ r.flat) ++ rest) = Q ++ (x :: (k.flat ++ []) ++ (r.flat ++ rest))
      simp only [List.append_nil, List.cons_append, List.append_assoc]
    have e4 : done ++ ((if p + 1 < Q.length then [32] else []) ++ (showT x (showL false k) ++ showL true r)) = showL false f := by
      rw [← e2, hp]
      show _ = done ++ ((if decide (p + 1 < Q.length) = true then [32] else []) ++ _)
      by_cases hc : p + 1 < Q.length
      · rw [if_pos hc, decide_eq_true hc, if_pos rfl]
      · rw [if_neg hc, decide_eq_false hc, if_neg (by decide)]
    have hz2 := congrArg List.length e4
    simp only [List.length_append] at hz2
    refine (sh1_any X Y3 Y4 Y5 (.slice a l.length ka) p Q.length (L ++ done) (showT x (showL false k)) w' (hS.fr hf) hk2 (by omega) (by rw [List.length_append]; omega) fun V hV hbV => ?_).mono ?_
    · exact hn a ka l Q x k (r.flat ++ rest) X _ V (by omega) (fun V' hV' => hF V' ((hf.trans hV).trans hV')) hl ht e3 ⟨hw2.1, hw2.2.1, trivial⟩ hbV (by simp only [List.length_append]; omega)
    · rintro e w'' ⟨rfl, hb3, hf3⟩
      refine ⟨rfl, by omega, hf.trans hf3, done ++ ((if p + 1 < Q.length then [32] else []) ++ showT x (showL false k)), ?_, ?_⟩
      · rw [← List.append_assoc]
        exact hb3
      · rw [decide_eq_true (by omega), ← e4]
        simp only [List.append_assoc]
  · exact enters_of Try.func44 (by kernel_rfl) rfl
  · refine ⟨Nat.le_refl _, Fr.refl, [], by rw [List.append_nil]; exact hb, ?_⟩
    rw [decide_eq_false (by omega)]
    rfl
  · rintro e w' ⟨rfl, _, hf, done, hk2, e2⟩
    refine ⟨by rw [decide_eq_true rfl], ?_, hf⟩
    have e2 : done ++ [] = showL false f := e2
    rw [List.append_nil] at e2
    rw [← e2]
    exact hk2
end Go.Proofs.Ytlndfognkkobaaa
