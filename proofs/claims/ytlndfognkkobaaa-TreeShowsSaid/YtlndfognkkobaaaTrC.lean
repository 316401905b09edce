/-
  The contracts of Kids and Tops.
-/
import Derived.Test.YtlndfognkkobaaaTrB
namespace Go.Proofs.Ytlndfognkkobaaa
open Go.RowKit
set_option linter.unusedVariables false
set_option linter.unusedSimpArgs false

theorem own_base {w : World} {B B' n k : Nat} {v : Value} {e : TypeId} {xs : List Value} (h : w.ownsRow B e k v n xs) (hb : B' ≤ B) : w.ownsRow B' e k v n xs := by
  refine ⟨h.1, ?_⟩
  rcases h.2 with h | ⟨g, cap, cur, e, h1, h2⟩
  · exact .inl h
  · exact .inr ⟨g, cap, cur, e, Nat.le_trans hb h1, h2⟩
/-- Numbers of its own, or none. -/
def GivesI (w : World) (L : List Nat) (e : Ending) (w' : World) : Prop := (∃ v, e = .returned v ∧ w'.ownsRow w.heap.size 3 1 v L.length (L.flatMap intE)) ∧ Below w.heap.size w w'
theorem KP.new (w : World) : KP w w.heap.size [] (w.alloc (.cells #[.slice none 0 0] 30)) :=
  ⟨⟨.slice none 0 0, Blk.new w 30 [.slice none 0 0], World.ownsRow_nil _ _ _ _⟩, (Below.refl _ _).alloc (Nat.le_refl _) _⟩
set_option maxRecDepth 100000 in
set_option maxHeartbeats 2000000 in
theorem kids_yes (a : Option Addr) (ka : Nat) (l P : List Nd) (x : Nd) (k : Fo) (rest : List Nd) (w : World) (hF : NdL w a l) (hl : l.length ≤ 100000) (h : l = P ++ ((Fo.cons x k .nil).flat ++ rest)) (hw : (Fo.cons x k .nil).Wf) :
    Calls Try.prog 16 #[.slice a l.length ka, .int .i64 (P.length : Int)] w (GivesI w (placesF (P.length + 1) k)) := by
  have he := end_tree (rest := rest) h hw
  have h2 : l = (P ++ [x]) ++ (k.flat ++ rest) := by
    rw [h]
    show P ++ (x :: (k.flat ++ []) ++ rest) = _
    simp only [List.append_nil, List.cons_append, List.append_assoc, List.nil_append]
  have hlen : l.length = P.length + (1 + k.flat.length) + rest.length := by
    rw [h2, List.length_append, List.length_append, List.length_append, List.length_singleton]
    omega
  have hP1 : (P ++ [x]).length = P.length + 1 := by rw [List.length_append]; rfl
  have HK := Lib.hid (fun (w1 : World) (V : World) (hF1 : NdL w1 a l) (hK : KP w1 w1.heap.size [] V) => kids_each a ka l (P ++ [x]) k rest (P.length + (1 + k.flat.length)) w1 w1.heap.size V (by omega) h2 hw.2.1 (.inl (by rw [hP1]; omega)) (by omega) hF1 rfl hK)
  rw [hP1] at HK
  obtain ⟨p, hp⟩ : ∃ p, P.length = p := ⟨_, rfl⟩
  rw [hp] at he HK hlen ⊢
  obtain ⟨st, hst⟩ : ∃ st, p + (1 + k.flat.length) = st := ⟨_, rfl⟩
  have hd : decide (p + 1 + k.flat.length = st) = true := decide_eq_true (by omega)
  rw [hst] at he HK hlen
  rw [hd] at HK
  have HE := Lib.hid (show ∀ V : World, NdL V a l → Calls Try.prog 13 #[.slice a l.length ka, .int .i64 (p : Int)] V fun e w' => e = .returned (.int .i64 (st : Int)) ∧ Below V.heap.size V w' from fun V hF => by have h9 := end_any a ka l (p : Int) V hF (by omega); rw [he] at h9; exact h9)
  have HK2 := Lib.hid (show ∀ w1 V : World, NdL w1 a l → KP w1 w1.heap.size [] V → Calls Try.prog 22 #[.slice a l.length ka, .int .i64 ((p : Int) + 1), .int .i64 (st : Int), .func (.func 32) #[] #[.pointer (some ⟨w1.heap.size, 0, none⟩)]] V fun e w' => e = .returned (.bool true) ∧ KP w1 w1.heap.size (placesF (p + 1) k) w' from fun w1 V h1 h2 => HK.out w1 V h1 h2)
  have HF := Lib.hid hF
  have hpl : p ≤ 1000000 := by omega
  clear he h h2 hlen hP1 hp hst hd HK hF hw
  go_enter Try.func16, Try.ntmps16
  go_wp2_with (first
    | (go_at_call 13; (with_reducible refine (HE.out _ HF.out).mono ?_); rintro e w1 ⟨rfl, hb1⟩; have HB1 := Lib.hid hb1; have HF1 := Lib.hid (HF.out.mono hb1); have HN := Lib.hid (KP.new w1); clear hb1)
    | (go_at_call 22; (with_reducible refine (HK2.out w1 _ HF1.out HN.out).mono ?_); rintro e w2 ⟨rfl, hk⟩; obtain ⟨v, hbk, hown⟩ := hk.b; have c0 := hbk.cell 0; dsimp only [List.getElem?_cons_zero] at c0; have hlt := hbk.lt; have HO := Lib.hid hown; have HB2 := Lib.hid (HB1.out.trans (hk.f.mono HB1.out.size)); clear hk hbk hown))
  refine bodyPost_ret (v := v) (by simp [results, Try.results16, go_sem]) rfl ⟨⟨v, rfl, own_base HO.out (by have := HB1.out.size; omega)⟩, HB2.out⟩
set_option maxRecDepth 100000 in
theorem kids_no (a : Option Addr) (ka : Nat) (l : List Nd) (i : Int) (w : World) (hF : NdL w a l) (hl : l.length ≤ 100000) (he : endB l i = -1) :
    Calls Try.prog 16 #[.slice a l.length ka, .int .i64 i] w (GivesI w []) := by
  have HE := Lib.hid (show ∀ V : World, NdL V a l → Calls Try.prog 13 #[.slice a l.length ka, .int .i64 i] V fun e w' => e = .returned (.int .i64 (-1)) ∧ Below V.heap.size V w' from fun V hF => by have h9 := end_any a ka l i V hF (by omega); rw [he] at h9; exact h9)
  have HF := Lib.hid hF
  clear he hF
  go_enter Try.func16, Try.ntmps16
  go_wp2_with (go_at_call 13; (with_reducible refine (HE.out _ HF.out).mono ?_); rintro e w1 ⟨rfl, hb1⟩; have HB1 := Lib.hid hb1; clear hb1)
  refine bodyPost_ret (v := .slice none 0 0) (by simp [results, Try.results16, go_sem]) rfl ⟨⟨_, rfl, World.ownsRow_nil _ _ _ _⟩, HB1.out⟩
set_option maxRecDepth 100000 in
set_option maxHeartbeats 2000000 in
theorem tops_any (a : Option Addr) (ka : Nat) (l : List Nd) (f : Fo) (rest : List Nd) (w : World) (hF : NdL w a l) (hl : l.length ≤ 100000) (h : l = f.flat ++ rest) (hw : f.Wf) (hr : rest = [] ∨ (rest ≠ [] ∧ fin rest 1 = none)) :
    Calls Try.prog 18 #[.slice a l.length ka] w (GivesI w (if rest = [] then placesF 0 f else [])) := by
  have hlen : l.length = f.flat.length + rest.length := by rw [h, List.length_append]
  have hst : (0 + f.flat.length = l.length ∧ rest = []) ∨ (0 + f.flat.length < l.length ∧ rest ≠ [] ∧ fin rest 1 = none) := by
    rcases hr with hr | ⟨hr, h2⟩
    · left
      exact ⟨by rw [hlen, hr]; simp, hr⟩
    · right
      have := List.length_pos_iff.2 hr
      exact ⟨by omega, hr, h2⟩
  have HK := Lib.hid (fun (w1 : World) (V : World) (hF1 : NdL w1 a l) (hK : KP w1 w1.heap.size [] V) => tops_each a ka l [] f rest l.length w1 w1.heap.size V (by omega) h hw (by rcases hst with h | h; exact .inl h.1; exact .inr ⟨h.1, h.2.2⟩) (by omega) hF1 rfl hK)
  have HF := Lib.hid hF
  have HN := Lib.hid (KP.new w)
  rcases hst with ⟨h1, h2⟩ | ⟨h1, h2, h3⟩
  · have HK2 := Lib.hid (show ∀ w1 V : World, NdL w1 a l → KP w1 w1.heap.size [] V → Calls Try.prog 22 #[.slice a l.length ka, .int .i64 0, .int .i64 (l.length : Int), .func (.func 33) #[] #[.pointer (some ⟨w1.heap.size, 0, none⟩)]] V fun e w' => e = .returned (.bool true) ∧ KP w1 w1.heap.size (placesF 0 f) w' from fun w1 V g1 g2 => by
      have h9 := HK.out w1 V g1 g2
      rw [show decide ((([] : List Nd).length) + f.flat.length = l.length) = true from decide_eq_true h1] at h9
      exact h9)
    rw [if_pos h2]
    clear HK h hlen hr h1 h2 hF hw
    go_enter Try.func18, Try.ntmps18
    go_wp2_with (go_at_call 22; (with_reducible refine (HK2.out w _ HF.out HN.out).mono ?_); rintro e w2 ⟨rfl, hk⟩; obtain ⟨v, hbk, hown⟩ := hk.b; have c0 := hbk.cell 0; dsimp only [List.getElem?_cons_zero] at c0; have hlt := hbk.lt; have HO := Lib.hid hown; have HB2 := Lib.hid hk.f; clear hk hbk hown)
    refine bodyPost_ret (v := v) (by simp [results, Try.results18, go_sem]) rfl ⟨⟨v, rfl, own_base HO.out (Nat.le_succ _)⟩, HB2.out⟩
  · have HK2 := Lib.hid (show ∀ w1 V : World, NdL w1 a l → KP w1 w1.heap.size [] V → Calls Try.prog 22 #[.slice a l.length ka, .int .i64 0, .int .i64 (l.length : Int), .func (.func 33) #[] #[.pointer (some ⟨w1.heap.size, 0, none⟩)]] V fun e w' => e = .returned (.bool false) ∧ KP w1 w1.heap.size (placesF 0 f) w' from fun w1 V g1 g2 => by
      have h9 := HK.out w1 V g1 g2
      rw [show decide ((([] : List Nd).length) + f.flat.length = l.length) = false from decide_eq_false (by show ¬ (0 + f.flat.length = l.length); omega)] at h9
      exact h9)
    rw [if_neg h2]
    clear HK h hlen hr h1 h2 h3 hF hw
    go_enter Try.func18, Try.ntmps18
    go_wp2_with (go_at_call 22; (with_reducible refine (HK2.out w _ HF.out HN.out).mono ?_); rintro e w2 ⟨rfl, hk⟩; have HB2 := Lib.hid hk.f; clear hk)
    refine bodyPost_ret (v := .slice none 0 0) (by simp [results, Try.results18, go_sem]) rfl ⟨⟨_, rfl, World.ownsRow_nil _ _ _ _⟩, HB2.out⟩
end Go.Proofs.Ytlndfognkkobaaa
