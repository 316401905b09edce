/-
  The contracts of names and members as the laws of this layer take them.
-/
import Derived.Test.YtgdankihfnnpaaaDoorGKnow2
namespace Go.Proofs.YtgdankihfnnpaaaDoor
open Go.RowKit
set_option linter.unusedVariables false

theorem nm_is (c : Option Addr) (kc : Nat) (xs : List Gp) (w : World) (hF : GpL w c xs) (hm : xs.length ≤ 1000000) :
    Calls Tryd.prog 15 #[.slice c xs.length kc] w (Gives w (fun v w' => ∃ a k, v = .slice a xs.length k ∧ TxtL w' a (xs.map (·.nm)))) :=
  (names_any c kc xs w hF hm).mono fun e w' h => h.weak fun v w' h => by
    rw [filt_allG] at h
    obtain ⟨a, k, e, _, hr⟩ := OwnL.isL scs_len (by decide) (OwnL.texts h)
    rw [List.length_map] at e
    exact ⟨a, k, e, hr⟩
theorem refnm_is (c : Option Addr) (kc : Nat) (xs : List Gp) (w : World) (hF : GpL w c xs) (hm : xs.length ≤ 1000000) :
    Calls Tryd.prog 16 #[.slice c xs.length kc] w (Gives w (fun v w' => ∃ a k, v = .slice a xs.length k ∧ TxtL w' a (xs.map (·.nm)))) :=
  (refnames_any c kc xs w hF hm).mono fun e w' h => h.weak fun v w' h => by
    rw [filt_allG] at h
    obtain ⟨a, k, e, _, hr⟩ := OwnL.isL scs_len (by decide) (OwnL.texts h)
    rw [List.length_map] at e
    exact ⟨a, k, e, hr⟩
theorem of_is (c : Option Addr) (kc q : Nat) (xs : List Mac) (key : ByteArray) (w : World) (hF : MacL w c xs) (hm : xs.length ≤ 1000000) (hq : (xs.filter (ofG key)).length = q) :
    Calls Tryd.prog 17 #[.slice c xs.length kc, .string key] w (Gives w (fun v w' => ∃ a k, v = .slice a q k ∧ TxtL w' a ((xs.filter (ofG key)).map (·.nm)))) :=
  (of_any c kc xs key w hF hm).mono fun e w' h => h.weak fun v w' h => by
    obtain ⟨a, k, e, _, hr⟩ := OwnL.isL scs_len (by decide) (OwnL.texts h)
    rw [List.length_map, hq] at e
    exact ⟨a, k, e, hr⟩
theorem refof_is (c : Option Addr) (kc q : Nat) (xs : List Mac) (key : ByteArray) (w : World) (hF : MacL w c xs) (hm : xs.length ≤ 1000000) (hq : (xs.filter (ofG key)).length = q) :
    Calls Tryd.prog 18 #[.slice c xs.length kc, .string key] w (Gives w (fun v w' => ∃ a k, v = .slice a q k ∧ TxtL w' a ((xs.filter (ofG key)).map (·.nm)))) :=
  (refof_any c kc xs key w hF hm).mono fun e w' h => h.weak fun v w' h => by
    obtain ⟨a, k, e, _, hr⟩ := OwnL.isL scs_len (by decide) (OwnL.texts h)
    rw [List.length_map, hq] at e
    exact ⟨a, k, e, hr⟩
theorem texts_same (a b : Option Addr) (ka kb n : Nat) (l : List ByteArray) (w : World) (hF : TxtL w a l) (hG : TxtL w b l) (hl : l.length = n) (hn : n ≤ 1000000) :
    Calls Tryd.prog 14 #[.slice a n ka, .slice b n kb] w fun e w' => e = .returned (.bool true) ∧ Below w.heap.size w w' := by
  have h := texts_any a b ka kb l l w hF hG (by omega) (by omega)
  rw [decide_eq_true rfl, hl] at h
  exact h
end Go.Proofs.YtgdankihfnnpaaaDoor
