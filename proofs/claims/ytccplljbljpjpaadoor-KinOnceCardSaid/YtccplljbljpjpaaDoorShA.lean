/-
  The document's amounts as text: triremeref03.Show, ShowMilli.
-/
import Derived.Test.YtccplljbljpjpaaDoorGDig
import Derived.Test.YtccplljbljpjpaaDoorMD
import Derived.BigQuiet
namespace Go.Proofs.YtccplljbljpjpaaDoor
open Go.RowKit
set_option linter.unusedVariables false
set_option linter.unusedSimpArgs false


abbrev uKi : ByteArray := ⟨#[75, 105]⟩
abbrev uMi : ByteArray := ⟨#[77, 105]⟩
abbrev uGi : ByteArray := ⟨#[71, 105]⟩
abbrev uTi : ByteArray := ⟨#[84, 105]⟩
abbrev uk : ByteArray := ⟨#[107]⟩
abbrev uM : ByteArray := ⟨#[77]⟩
abbrev uG : ByteArray := ⟨#[71]⟩
abbrev uT : ByteArray := ⟨#[84]⟩
abbrev um : ByteArray := ⟨#[109]⟩
def showV (n : Int) : ByteArray :=
  if n < 0 ∨ 1125899906842624 < n then emp else if n = 0 then ⟨#[48]⟩ else if n % 1099511627776 = 0 then itoaB (n / 1099511627776) ++ uTi else if n % 1073741824 = 0 then itoaB (n / 1073741824) ++ uGi
  else if n % 1048576 = 0 then itoaB (n / 1048576) ++ uMi else if n % 1024 = 0 then itoaB (n / 1024) ++ uKi else itoaB n
def showM (n : Int) : ByteArray := if n < 0 ∨ 1125899906842624 < n then emp else if n % 1000 = 0 then itoaB (n / 1000) else itoaB n ++ um
theorem showV_size (n : Int) : (showV n).size ≤ 30 := by
  unfold showV
  have k : ∀ (m : Int) (t : ByteArray), -9223372036854775808 ≤ m → m ≤ 9223372036854775807 → t.size ≤ 9 → (itoaB m ++ t).size ≤ 30 := fun m t h1 h2 h3 => by
    rw [ByteArray.size_append]
    have := itoaB_size m h1 h2
    omega
  have k0 := fun (m : Int) (h1 : -9223372036854775808 ≤ m) (h2 : m ≤ 9223372036854775807) => itoaB_size m h1 h2
  split
  · decide
  · split
    · decide
    · split
      · exact k _ _ (by omega) (by omega) (by decide)
      · split
        · exact k _ _ (by omega) (by omega) (by decide)
        · split
          · exact k _ _ (by omega) (by omega) (by decide)
          · split
            · exact k _ _ (by omega) (by omega) (by decide)
            · exact Nat.le_trans (k0 n (by omega) (by omega)) (by decide)
theorem showM_size (n : Int) : (showM n).size ≤ 30 := by
  unfold showM
  split
  · decide
  · split
    · exact Nat.le_trans (itoaB_size _ (by omega) (by omega)) (by decide)
    · rw [ByteArray.size_append]
      have := itoaB_size n (by omega) (by omega)
      have h : (um : ByteArray).size ≤ 9 := by decide
      omega
end Go.Proofs.YtccplljbljpjpaaDoor
