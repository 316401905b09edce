/-
  Pods that are right, in plain words.
-/
import Derived.Test.YthbpnfpalcgfeaaPd2
import Derived.BigQuiet
namespace Go.Proofs.Ythbpnfpalcgfeaa
open Go.RowKit
set_option linter.unusedVariables false
set_option linter.unusedSimpArgs false

def rightP (p : Pd) : Bool := wordB p.nm && weB p.ow && rtB p.n0 p.n1 p.n2 p.n3 p.n4 && decide (p.n3 = 1) && labsB p.labs && labsB p.sels && labsB p.aprs && labsB p.spds && trmsB p.trms && rightO p.bers && prtsB p.prts && (!p.wd || decide (0 < p.aprs.length)) && skewB p.spds.length p.sw && inB p.rk 0 1000
/-- What a light pod has. -/
structure LtP (p : Pd) : Prop where
  nm : p.nm.size ≤ 300
  ow : p.ow.size ≤ 300
  tl : p.trms.length ≤ 30
  pl : p.prts.length ≤ 30
  l0 : lightL p.labs = true
  l1 : lightL p.sels = true
  l2 : lightL p.aprs = true
  l3 : lightL p.spds = true
  bl : lightB p.bers [] = true
  tt : ∀ t ∈ p.trms, Lb.lightTm t = true
theorem lightP_iff {p : Pd} (h : lightP p = true) : LtP p := by
  unfold lightP at h
  simp only [Bool.and_eq_true, decide_eq_true_eq] at h
  exact ⟨h.1.1.1.1.1.1.1.1.1, h.1.1.1.1.1.1.1.1.2, h.1.1.1.1.1.1.1.2, h.1.1.1.1.1.1.2, h.1.1.1.1.1.2, h.1.1.1.1.2, h.1.1.1.2, h.1.1.2, h.1.2, List.all_eq_true.1 h.2⟩
theorem lab_sz {l : List Lab} (h : lightL l = true) : ∀ x ∈ l, x.key.size ≤ 1000000000 ∧ x.val.size ≤ 1000000000 := fun x hx => by
  have := ((lightL_iff l).1 h).2 x hx
  omega
theorem ber_sz {l : List Tol} (h : lightB l [] = true) : l.length ≤ 1000000 ∧ ∀ x ∈ l, x.key.size ≤ 1000000000 ∧ x.val.size ≤ 1000000000 := by
  unfold lightB at h
  rw [Bool.and_eq_true, Bool.and_eq_true, decide_eq_true_eq] at h
  refine ⟨by omega, fun x hx => ?_⟩
  have := List.all_eq_true.1 h.2.1 x hx
  unfold shortO at this
  rw [decide_eq_true_eq] at this
  omega
end Go.Proofs.Ythbpnfpalcgfeaa
