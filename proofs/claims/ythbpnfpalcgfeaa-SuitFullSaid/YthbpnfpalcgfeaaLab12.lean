/-
  The contract of triremelaw05.known.
-/
import Derived.Test.YthbpnfpalcgfeaaLab11
namespace Go.Proofs.Ythbpnfpalcgfeaa
namespace Lb
set_option linter.unusedSimpArgs false
open Go.RowKit
set_option linter.unusedVariables false

def tN : ByteArray := ⟨#[110]⟩
def t7 : ByteArray := ⟨#[55]⟩
def tZ : ByteArray := ⟨#[122, 111, 110, 101]⟩
def tA : ByteArray := ⟨#[97]⟩
def tB : ByteArray := ⟨#[98]⟩
def t5 : ByteArray := ⟨#[53]⟩
def tP : ByteArray := ⟨#[112]⟩
def tQ : ByteArray := ⟨#[113]⟩
def kl : List Lab := [⟨tN, t7⟩, ⟨tZ, tA⟩]
def kz : List Lab := [⟨tZ, tA⟩]
def kp : List Lab := [⟨tN, t7⟩, ⟨tP, tQ⟩, ⟨tZ, tA⟩]
theorem kv1 : getV kl tZ = tA := by decide +kernel
theorem kv2 : getB kl tZ = true := by decide +kernel
theorem kv3 : labsB kl = true := by decide +kernel
theorem kv4 (a : Option Addr) (k : Nat) : meetP kl ⟨tZ, 1, a, k, [tA, tB]⟩ = true := (rfl : meetP kl ⟨tZ, 1, a, k, [tA, tB]⟩ = meetP kl ⟨tZ, 1, none, 0, [tA, tB]⟩).trans (by decide +kernel : meetP kl ⟨tZ, 1, none, 0, [tA, tB]⟩ = true)
theorem kv5 : meetP kl ⟨tZ, 4, none, 0, []⟩ = false := by decide +kernel
theorem kv6 (a : Option Addr) (k : Nat) : meetP kl ⟨tN, 5, a, k, [t5]⟩ = true := (rfl : meetP kl ⟨tN, 5, a, k, [t5]⟩ = meetP kl ⟨tN, 5, none, 0, [t5]⟩).trans (by decide +kernel : meetP kl ⟨tN, 5, none, 0, [t5]⟩ = true)
theorem kv7 : setP kl tP tQ = kp := by decide +kernel
theorem kv8 : hasP kl kz = true := by decide +kernel
theorem kv9 : hasP kz kl = false := by decide +kernel
theorem kva : rtrm ⟨tA, 3, none, 0, []⟩ = true := by decide +kernel
theorem kvb : rtrm ⟨tA, 1, none, 0, []⟩ = false := by decide +kernel
theorem kvc : (dropL kl tN).length = 1 := by decide +kernel
theorem kl_sz : ∀ x ∈ kl, x.key.size ≤ 1000000000 ∧ x.val.size ≤ 1000000000 := by
  intro x hx
  simp only [kl, List.mem_cons, List.not_mem_nil, or_false] at hx
  rcases hx with rfl | rfl <;> decide
theorem nilT (w : World) (key : ByteArray) (op : Int) : TrmAt w ⟨key, op, none, 0, []⟩ := ⟨RowsAt.nil, Nat.zero_le _⟩

end Lb
end Go.Proofs.Ythbpnfpalcgfeaa
