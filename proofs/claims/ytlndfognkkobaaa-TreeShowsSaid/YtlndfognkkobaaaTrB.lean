/-
  Kids, Tops: places of trees.
-/
import Derived.Test.YtlndfognkkobaaaTrA
namespace Go.Proofs.Ytlndfognkkobaaa
open Go.RowKit
set_option linter.unusedVariables false
set_option linter.unusedSimpArgs false

/-- Where a forest's trees begin. -/
def placesF : Nat → Fo → List Nat
  | _, .nil => []
  | p, .cons _ k r => p :: placesF (p + (1 + k.flat.length)) r
def intE (n : Nat) : List Value := [.int .i64 (n : Int)]
theorem intE_len (n : Nat) : (intE n).length = 1 := rfl
theorem intE_one (n : Nat) : ∀ u ∈ intE n, u.oneCell' = true := by
  intro u hu
  rw [List.mem_singleton.1 hu]
  rfl
theorem places_len : ∀ (f : Fo) (p : Nat), (placesF p f).length = f.len
  | .nil, _ => rfl
  | .cons x k r, p => by show (placesF _ r).length + 1 = r.len + 1; rw [places_len r]
theorem flat_len : ∀ (f : Fo), f.len ≤ f.flat.length
  | .nil => Nat.le_refl _
  | .cons x k r => by
    have := flat_len r
    show r.len + 1 ≤ (x :: (k.flat ++ r.flat)).length
    rw [List.length_cons, List.length_append]
    omega
theorem Try.info3 : (Try.prog.info? 3).map (fun i => (i.zero, i.size, i.bytes)) = some (some (.int .i64 0), 1, 8) := by kernel_rfl
theorem own_sl {w : World} {B n k : Nat} {v : Value} {e : TypeId} {xs : List Value} (h : w.ownsRow B e k v n xs) : ∃ a c, v = .slice a n c := by
  rcases h.2 with ⟨e, h0⟩ | ⟨g, cap, cur, e, _⟩
  · exact ⟨none, 0, by rw [e, h0]⟩
  · exact ⟨_, _, e⟩
/-- A box with a list of numbers of its own. -/
structure KP (w0 : World) (X : Nat) (L : List Nat) (w : World) : Prop where
  b : ∃ v, Blk w X 30 [v] ∧ w.ownsRow (X + 1) 3 1 v L.length (L.flatMap intE)
  f : Below X w0 w
theorem KP.below {w0 w w' : World} {X : Nat} {L : List Nat} (h : KP w0 X L w) (hb : Below w.heap.size w w') : KP w0 X L w' := by
  obtain ⟨v, h1, h2⟩ := h.b
  exact ⟨⟨v, h1.below hb, own_kept h2 hb⟩, h.f.trans (hb.mono (by have := h1.lt; omega))⟩
set_option maxRecDepth 100000 in
set_option maxHeartbeats 2000000 in
theorem kids1_any (w0 : World) (X : Nat) (L : List Nat) (i : Nat) (w : World) (h : KP w0 X L w) (hL : L.length ≤ 1000000) :
    Calls Try.prog 32 #[.int .i64 (i : Int), .pointer (some ⟨X, 0, none⟩)] w fun e w' => e = .returned (.tuple #[]) ∧ KP w0 X (L ++ [i]) w' := by
  obtain ⟨v, hbk, hown⟩ := h.b
  have c0 := hbk.cell 0
  have f0 := hbk.frozen 0
  dsimp only [List.getElem?_cons_zero] at c0
  have hlt := hbk.lt
  have HB := Lib.hid hbk
  have HO := Lib.hid hown
  have HF := Lib.hid h.f
  obtain ⟨i0, hi, hz0, hz1, hz2⟩ := info_parts Try.info3
  have Hi := Lib.hid hi
  have Hz0 := Lib.hid hz0
  have Hz1 := Lib.hid hz1
  have Hz2 := Lib.hid hz2
  clear hi hz0 hz1 hz2
  clear hbk hown h
  go_enter Try.func32, Try.ntmps32
  go_wp2_with (at_builtin; refine wpList_append_src rfl (.tmp 3) (.tmp 5) 30 rfl (X + 1) 3 i0 _ 1 8 Try.underlying30 Hi.out Hz0.out Hz1.out Hz2.out rfl (by decide) _ L.length (L.flatMap intE) rfl (HO.out.alloc _) (some ⟨w.heap.size, 0, none⟩) 1 1 [.int .i64 (i : Int)] rfl rfl (fun q e => by injection e with e; rw [← e]; exact news_at _ _ _) (fun e => by cases e) (intE_one i) (by unfold maxLen; omega) (by omega) (by simp; omega) ?_; intro v1 w1 hown1 hgrow1; obtain ⟨a1, k1, rfl⟩ := own_sl hown1; have HB1 := Lib.hid (own_below (HO.out.alloc _) ((Below.refl (X + 1) w).alloc (by omega) _) (by simp; omega) hgrow1); have HO1 := Lib.hid hown1; have hbk1 := HB.out.same (HB1.out.block X (by omega)); have hlt1 := hbk1.lt; have f1 := hbk1.frozen 0; have c1 := hbk1.cell 0; dsimp only [List.getElem?_cons_zero] at c1; have HBk := Lib.hid hbk1; clear hown1 hgrow1 hbk1)
  go_end0
  refine ⟨rfl, ⟨.slice a1 (L.length + 1) k1, HBk.out.set 0 _, ?_⟩, (HF.out.trans (HB1.out.mono (by omega))).setCell (Nat.le_refl X) _⟩
  rw [List.length_append, List.flatMap_append]
  exact own_same HO1.out fun g hg => Below.heap_setCell _ _ _ _ (by have h9 := (HO1.out.lt g hg).1; show g ≠ X; omega)
set_option maxRecDepth 100000 in
set_option maxHeartbeats 2000000 in
theorem tops1_any (w0 : World) (X : Nat) (L : List Nat) (i : Nat) (w : World) (h : KP w0 X L w) (hL : L.length ≤ 1000000) :
    Calls Try.prog 33 #[.int .i64 (i : Int), .pointer (some ⟨X, 0, none⟩)] w fun e w' => e = .returned (.tuple #[]) ∧ KP w0 X (L ++ [i]) w' := by
  obtain ⟨v, hbk, hown⟩ := h.b
  have c0 := hbk.cell 0
  have f0 := hbk.frozen 0
  dsimp only [List.getElem?_cons_zero] at c0
  have hlt := hbk.lt
  have HB := Lib.hid hbk
  have HO := Lib.hid hown
  have HF := Lib.hid h.f
  obtain ⟨i0, hi, hz0, hz1, hz2⟩ := info_parts Try.info3
  have Hi := Lib.hid hi
  have Hz0 := Lib.hid hz0
  have Hz1 := Lib.hid hz1
  have Hz2 := Lib.hid hz2
  clear hi hz0 hz1 hz2
  clear hbk hown h
  go_enter Try.func33, Try.ntmps33
  go_wp2_with (at_builtin; refine wpList_append_src rfl (.tmp 3) (.tmp 5) 30 rfl (X + 1) 3 i0 _ 1 8 Try.underlying30 Hi.out Hz0.out Hz1.out Hz2.out rfl (by decide) _ L.length (L.flatMap intE) rfl (HO.out.alloc _) (some ⟨w.heap.size, 0, none⟩) 1 1 [.int .i64 (i : Int)] rfl rfl (fun q e => by injection e with e; rw [← e]; exact news_at _ _ _) (fun e => by cases e) (intE_one i) (by unfold maxLen; omega) (by omega) (by simp; omega) ?_; intro v1 w1 hown1 hgrow1; obtain ⟨a1, k1, rfl⟩ := own_sl hown1; have HB1 := Lib.hid (own_below (HO.out.alloc _) ((Below.refl (X + 1) w).alloc (by omega) _) (by simp; omega) hgrow1); have HO1 := Lib.hid hown1; have hbk1 := HB.out.same (HB1.out.block X (by omega)); have hlt1 := hbk1.lt; have f1 := hbk1.frozen 0; have c1 := hbk1.cell 0; dsimp only [List.getElem?_cons_zero] at c1; have HBk := Lib.hid hbk1; clear hown1 hgrow1 hbk1)
  go_end0
  refine ⟨rfl, ⟨.slice a1 (L.length + 1) k1, HBk.out.set 0 _, ?_⟩, (HF.out.trans (HB1.out.mono (by omega))).setCell (Nat.le_refl X) _⟩
  rw [List.length_append, List.flatMap_append]
  exact own_same HO1.out fun g hg => Below.heap_setCell _ _ _ _ (by have h9 := (HO1.out.lt g hg).1; show g ≠ X; omega)

theorem kids_each (a : Option Addr) (ka : Nat) (l : List Nd) (P : List Nd) (f : Fo) (rest : List Nd) (stop : Nat) (w1 : World) (X : Nat) (V : World) (hl : l.length ≤ 1000000) (h : l = P ++ (f.flat ++ rest)) (hw : f.Wf) (hs : P.length + f.flat.length = stop ∨ (P.length + f.flat.length < stop ∧ fin rest 1 = none)) (hs9 : stop ≤ 1000000) (hF : NdL w1 a l) (hX : X = w1.heap.size) (hK : KP w1 X [] V) :
    Calls Try.prog 22 #[.slice a l.length ka, .int .i64 (P.length : Int), .int .i64 (stop : Int), .func (.func 32) #[] #[.pointer (some ⟨X, 0, none⟩)]] V fun e w' => e = .returned (.bool (decide (P.length + f.flat.length = stop))) ∧ KP w1 X (placesF P.length f) w' := by
  have hlen : l.length = P.length + f.flat.length + rest.length := by rw [h, List.length_append, List.length_append]; omega
  refine (each_any a ka l 32 #[.pointer (some ⟨X, 0, none⟩)] (fun g w' => ∃ done, KP w1 X done w' ∧ done ++ placesF (P.length + f.flat.length - g.flat.length) g = placesF P.length f) P f rest stop V hl h hw hs hs9 ?_ ?_ ?_ ?_ ?_).mono ?_
  · rintro g w' ⟨done, hk, _⟩
    exact hF.mono (hX ▸ hk.f)
  · rintro g w' w'' ⟨done, hk, e⟩ hb
    exact ⟨done, hk.below hb, e⟩
  · rintro x k r Q w' e1 _ ⟨done, hk, e2⟩
    have hq : l.length = Q.length + (1 + k.flat.length + r.flat.length) + rest.length := by
      rw [e1, List.length_append, List.length_append]
      show Q.length + ((x :: (k.flat ++ r.flat)).length + rest.length) = _
      rw [List.length_cons, List.length_append]
      omega
    have hpos : P.length + f.flat.length - (Fo.cons x k r).flat.length = Q.length := by
      show _ - (x :: (k.flat ++ r.flat)).length = _
      rw [List.length_cons, List.length_append]
      omega
    rw [hpos] at e2
    have e3 : done ++ (Q.length :: placesF (Q.length + (1 + k.flat.length)) r) = placesF P.length f := e2
    have hd : done.length ≤ 1000000 := by
      have h1 := congrArg List.length e3
      rw [places_len, List.length_append] at h1
      have := flat_len f
      omega
    refine (kids1_any w1 X done Q.length w' hk hd).mono ?_
    rintro e w'' ⟨rfl, hk2⟩
    refine ⟨rfl, done ++ [Q.length], hk2, ?_⟩
    rw [← e3, List.append_assoc, show P.length + f.flat.length - r.flat.length = Q.length + (1 + k.flat.length) by omega]
    rfl
  · exact enters_of Try.func32 (by kernel_rfl) rfl
  · exact ⟨[], hK, by rw [Nat.add_sub_cancel]; rfl⟩
  · rintro e w' ⟨rfl, done, hk, e2⟩
    refine ⟨rfl, ?_⟩
    have e2 : done ++ [] = placesF P.length f := e2
    rw [List.append_nil] at e2
    rw [← e2]
    exact hk

theorem tops_each (a : Option Addr) (ka : Nat) (l : List Nd) (P : List Nd) (f : Fo) (rest : List Nd) (stop : Nat) (w1 : World) (X : Nat) (V : World) (hl : l.length ≤ 1000000) (h : l = P ++ (f.flat ++ rest)) (hw : f.Wf) (hs : P.length + f.flat.length = stop ∨ (P.length + f.flat.length < stop ∧ fin rest 1 = none)) (hs9 : stop ≤ 1000000) (hF : NdL w1 a l) (hX : X = w1.heap.size) (hK : KP w1 X [] V) :
    Calls Try.prog 22 #[.slice a l.length ka, .int .i64 (P.length : Int), .int .i64 (stop : Int), .func (.func 33) #[] #[.pointer (some ⟨X, 0, none⟩)]] V fun e w' => e = .returned (.bool (decide (P.length + f.flat.length = stop))) ∧ KP w1 X (placesF P.length f) w' := by
  have hlen : l.length = P.length + f.flat.length + rest.length := by rw [h, List.length_append, List.length_append]; omega
  refine (each_any a ka l 33 #[.pointer (some ⟨X, 0, none⟩)] (fun g w' => ∃ done, KP w1 X done w' ∧ done ++ placesF (P.length + f.flat.length - g.flat.length) g = placesF P.length f) P f rest stop V hl h hw hs hs9 ?_ ?_ ?_ ?_ ?_).mono ?_
  · rintro g w' ⟨done, hk, _⟩
    exact hF.mono (hX ▸ hk.f)
  · rintro g w' w'' ⟨done, hk, e⟩ hb
    exact ⟨done, hk.below hb, e⟩
  · rintro x k r Q w' e1 _ ⟨done, hk, e2⟩
    have hq : l.length = Q.length + (1 + k.flat.length + r.flat.length) + rest.length := by
      rw [e1, List.length_append, List.length_append]
      show Q.length + ((x :: (k.flat ++ r.flat)).length + rest.length) = _
      rw [List.length_cons, List.length_append]
      omega
    have hpos : P.length + f.flat.length - (Fo.cons x k r).flat.length = Q.length := by
      show _ - (x :: (k.flat ++ r.flat)).length = _
      rw [List.length_cons, List.length_append]
      omega
    rw [hpos] at e2
    have e3 : done ++ (Q.length :: placesF (Q.length + (1 + k.flat.length)) r) = placesF P.length f := e2
    have hd : done.length ≤ 1000000 := by
      have h1 := congrArg List.length e3
      rw [places_len, List.length_append] at h1
      have := flat_len f
      omega
    refine (tops1_any w1 X done Q.length w' hk hd).mono ?_
    rintro e w'' ⟨rfl, hk2⟩
    refine ⟨rfl, done ++ [Q.length], hk2, ?_⟩
    rw [← e3, List.append_assoc, show P.length + f.flat.length - r.flat.length = Q.length + (1 + k.flat.length) by omega]
    rfl
  · exact enters_of Try.func33 (by kernel_rfl) rfl
  · exact ⟨[], hK, by rw [Nat.add_sub_cancel]; rfl⟩
  · rintro e w' ⟨rfl, done, hk, e2⟩
    refine ⟨rfl, ?_⟩
    have e2 : done ++ [] = placesF P.length f := e2
    rw [List.append_nil] at e2
    rw [← e2]
    exact hk
end Go.Proofs.Ytlndfognkkobaaa
