/-
  What comes of fixed calls: known gives back true.
-/
import Derived.Test.YtaehcnoendieaaaDoorTcU
import Derived.Test.YtaehcnoendieaaaDoorTcO
namespace Go.Proofs.YtaehcnoendieaaaDoor
open Go.RowKit
set_option linter.unusedVariables false
set_option linter.unusedSimpArgs false

abbrev nG : ByteArray := ⟨#[103]⟩
abbrev nG1 : ByteArray := ⟨#[103, 45, 49]⟩
def ev1 : Ev := ⟨3, ⟨#[117, 112]⟩, nG, 1⟩
def ev2 : Ev := ⟨4, ⟨#[100, 111, 119, 110]⟩, nG1, 0⟩
def ev3 : Ev := ⟨5, ⟨#[100, 101, 108, 101, 116, 101]⟩, nG1, 0⟩
def ev4 : Ev := ⟨6, ⟨#[103, 111, 110, 101]⟩, nG1, 0⟩
def ev5 : Ev := ⟨6, ⟨#[117, 110, 104, 101, 97, 108, 116, 104, 121]⟩, ⟨#[]⟩, 0⟩
def K1 : List Ev := [ev1, ev2, ev3, ev4, ev5]
abbrev s1 : ByteArray := ⟨#[51, 58, 32, 117, 112, 32, 103, 32, 49, 10, 52, 58, 32, 100, 111, 119, 110, 32, 103, 45, 49, 10, 53, 58, 32, 100, 101, 108, 101, 116, 101, 32, 103, 45, 49, 10, 54, 58, 32, 103, 111, 110, 101, 32, 103, 45, 49, 10, 54, 58, 32, 117, 110, 104, 101, 97, 108, 116, 104, 121, 10]⟩
abbrev s2 : ByteArray := ⟨#[51, 58, 32, 117, 112, 32, 103, 32, 49, 10, 52, 58, 32, 117, 112, 32, 103, 10]⟩
theorem k_right : K1.all rightE = true := by decide +kernel
theorem ln_of (e : Ev) (d m : Nat) (hd : e.now.toNat = d) (hd9 : d < 10) (hm : e.n.toNat = m) (hm9 : m < 10) : dl (lineE e) = UInt8.ofNat (48 + d) :: 58 :: 32 :: (dl e.what ++ ((if e.name = emp then [] else 32 :: dl e.name) ++ (if 0 < e.n then [32, UInt8.ofNat (48 + m)] else []))) := by
  rw [line_list, hd, dec_one d hd9]
  unfold tailL
  rw [hm, dec_one m hm9]
  rfl
theorem ln1 : dl (lineE ev1) = [51, 58, 32, 117, 112, 32, 103, 32, 49] := (ln_of ev1 3 1 rfl (by decide) rfl (by decide)).trans (by decide +kernel)
theorem ln2 : dl (lineE ev2) = [52, 58, 32, 100, 111, 119, 110, 32, 103, 45, 49] := (ln_of ev2 4 0 rfl (by decide) rfl (by decide)).trans (by decide +kernel)
theorem ln3 : dl (lineE ev3) = [53, 58, 32, 100, 101, 108, 101, 116, 101, 32, 103, 45, 49] := (ln_of ev3 5 0 rfl (by decide) rfl (by decide)).trans (by decide +kernel)
theorem ln4 : dl (lineE ev4) = [54, 58, 32, 103, 111, 110, 101, 32, 103, 45, 49] := (ln_of ev4 6 0 rfl (by decide) rfl (by decide)).trans (by decide +kernel)
theorem ln5 : dl (lineE ev5) = [54, 58, 32, 117, 110, 104, 101, 97, 108, 116, 104, 121] := (ln_of ev5 6 0 rfl (by decide) rfl (by decide)).trans (by decide +kernel)
theorem kr (e : Ev) (h : e ∈ K1) : rightE e = true := List.all_eq_true.1 k_right e h
theorem show_k1 : showL K1 = dl s1 := by
  unfold showL K1
  simp only [List.flatMap_cons, List.flatMap_nil]
  rw [if_pos (kr ev1 (by simp [K1])), if_pos (kr ev2 (by simp [K1])), if_pos (kr ev3 (by simp [K1])), if_pos (kr ev4 (by simp [K1])), if_pos (kr ev5 (by simp [K1])), ln1, ln2, ln3, ln4, ln5]
  rfl
theorem show_1 : lsB (showL [ev1]) = ⟨#[51, 58, 32, 117, 112, 32, 103, 32, 49, 10]⟩ := by
  unfold showL
  simp only [List.flatMap_cons, List.flatMap_nil]
  rw [if_pos (kr ev1 (by simp [K1])), ln1]
  rfl
theorem filt_k1 : K1.filter rightE = K1 := List.filter_eq_self.2 kr
theorem parse_s1 : parseA s1 = (K1, 0, 0) := by
  unfold parseA
  rw [← show_k1, run_show K1 s1.size [] 1 (by rw [show_k1]; decide), filt_k1]
  rfl
theorem bad_line : parseL ⟨#[52, 58, 32, 117, 112, 32, 103]⟩ = none := by decide +kernel
theorem parse_s2 : parseA s2 = ([], 12, 2) := by
  have hd : dl s2 = dl (lineE ev1) ++ 10 :: [52, 58, 32, 117, 112, 32, 103, 10] := by rw [ln1]; rfl
  obtain ⟨h1, h2⟩ := line_app (b := [52, 58, 32, 117, 112, 32, 103, 10]) (line_high (kr ev1 (by simp [K1]))).1
  have h3 : lineOf [52, 58, 32, 117, 112, 32, 103, 10] = [52, 58, 32, 117, 112, 32, 103] := by decide +kernel
  unfold parseA
  rw [hd, show s2.size = 16 + 1 + 1 from rfl, runL, if_neg (by simp), h1, ls_dl, parse_line (kr ev1 (by simp [K1]))]
  dsimp only
  rw [h2, runL, if_neg (by simp), h3, show lsB [52, 58, 32, 117, 112, 32, 103] = ⟨#[52, 58, 32, 117, 112, 32, 103]⟩ from rfl, bad_line]
  rfl
theorem check_k1 : checkB K1 = -1 := by decide +kernel
theorem check_k2 : checkB [ev3, ev4, ev5] = 0 := by decide +kernel
theorem calls_k1 : callsN K1 = 2 := by decide +kernel
theorem added_k1 : addedN nG K1 = 1 := by decide +kernel
theorem right_k9 : rightE ⟨0, ⟨#[117, 112]⟩, nG, 0⟩ = false := by decide +kernel
theorem RowsAt.dropped {α : Type} {enc : α → List Value} {K : Nat} {w : World} {b o : Nat} {l : List α} (j : Nat) (h : RowsAt enc K w (some ⟨b, o, none⟩) l) : RowsAt enc K w (some ⟨b, o + j * K, none⟩) (l.drop j) := fun h0 => by
  rw [List.length_drop] at h0
  obtain ⟨b', o', e, hb, hc⟩ := h (by omega)
  injection e with e
  injection e with e1 e2
  subst e1 e2
  refine ⟨b, o + j * K, rfl, hb, fun i x hx r hr => ?_⟩
  rw [List.getElem?_drop] at hx
  have := hc (j + i) x hx r hr
  rw [show o + j * K + i * K + r = o + (j + i) * K + r by rw [Nat.add_mul]; omega]
  exact this
theorem RowsAt.taken {α : Type} {enc : α → List Value} {K : Nat} {w : World} {a : Option Addr} {l : List α} (j : Nat) (h : RowsAt enc K w a l) : RowsAt enc K w a (l.take j) := fun h0 => by
  rw [List.length_take] at h0
  obtain ⟨b', o', e, hb, hc⟩ := h (by omega)
  refine ⟨b', o', e, hb, fun i x hx r hr => hc i x ?_ r hr⟩
  rw [List.getElem?_take] at hx
  split at hx
  · exact hx
  · cases hx
end Go.Proofs.YtaehcnoendieaaaDoor
