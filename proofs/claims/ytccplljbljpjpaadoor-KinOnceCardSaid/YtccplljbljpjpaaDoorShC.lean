/-
  A pod as text, the document's way: the words of its terms and effects; in plain words.
-/
import Derived.Test.YtccplljbljpjpaaDoorShB
import Derived.Test.YtccplljbljpjpaaDoorYeA
import Derived.Test.YtccplljbljpjpaaDoorLab14
namespace Go.Proofs.YtccplljbljpjpaaDoor
open Go.RowKit
set_option linter.unusedVariables false
set_option linter.unusedSimpArgs false

/-- A list of texts of its own. -/
def IsTx (L : List ByteArray) (n : Nat) (v : Value) (w : World) : Prop := ∃ b, v = .slice (some ⟨b, 0, none⟩) n n ∧ b < w.heap.size ∧ ∀ i s, L[i]? = some s → w.cell? ⟨b, i, none⟩ = some (.string s)
theorem IsTx.stays (L : List ByteArray) (n : Nat) : Stays (IsTx L n) := fun v w w' hb ⟨b, e, h1, h2⟩ => ⟨b, e, by have := hb.size; omega, fun i s hi => by rw [hb.cell h1]; exact h2 i s hi⟩
/-- A place where a text lies. -/
def IsEl (s : ByteArray) (v : Value) (w : World) : Prop := ∃ b i, v = .pointer (some ⟨b, i, none⟩) ∧ b < w.heap.size ∧ w.cell? ⟨b, i, none⟩ = some (.string s)
theorem IsEl.stays (s : ByteArray) : Stays (IsEl s) := fun v w w' hb ⟨b, i, e, h1, h2⟩ => ⟨b, i, e, by have := hb.size; omega, by rw [hb.cell h1]; exact h2⟩
def opsL : List ByteArray := [⟨#[]⟩, ⟨#[105, 110]⟩, ⟨#[110, 111, 116, 105, 110]⟩, ⟨#[101, 120, 105, 115, 116, 115]⟩, ⟨#[109, 105, 115, 115, 105, 110, 103]⟩, ⟨#[97, 98, 111, 118, 101]⟩, ⟨#[98, 101, 108, 111, 119]⟩]
def effL : List ByteArray := [⟨#[97, 110, 121]⟩, ⟨#[110, 111]⟩, ⟨#[112, 114, 101, 102, 101, 114]⟩, ⟨#[111, 117, 116]⟩]
theorem tx_new (L : List ByteArray) (w : World) (t : TypeId) : ∀ i s, L[i]? = some s → (w.alloc (.cells (L.map Value.string).toArray t)).cell? ⟨w.heap.size, i, none⟩ = some (.string s) := by
  intro i s h
  rw [(Box.new w (L.map Value.string) t).cell i, List.getElem?_map, h]
  rfl
def opsB (n : Int) : ByteArray := opsL.getD n.toNat emp
def efwB (n : Int) : ByteArray := effL.getD n.toNat emp
theorem ops_at {n : Int} (h : n = 1 ∨ n = 2 ∨ n = 3 ∨ n = 4 ∨ n = 5 ∨ n = 6) : ∃ jj : Nat, n = jj ∧ jj < 7 ∧ opsL[jj]? = some (opsB n) ∧ (opsB n).size ≤ 20 := by
  rcases h with rfl | rfl | rfl | rfl | rfl | rfl
  · exact ⟨1, rfl, by decide, rfl, by decide⟩
  · exact ⟨2, rfl, by decide, rfl, by decide⟩
  · exact ⟨3, rfl, by decide, rfl, by decide⟩
  · exact ⟨4, rfl, by decide, rfl, by decide⟩
  · exact ⟨5, rfl, by decide, rfl, by decide⟩
  · exact ⟨6, rfl, by decide, rfl, by decide⟩
theorem eff_at {n : Int} (h : reB n = true) : ∃ jj : Nat, n = jj ∧ jj < 4 ∧ effL[jj]? = some (efwB n) ∧ (efwB n).size ≤ 20 := by
  unfold reB at h
  rw [decide_eq_true_eq] at h
  rcases h with rfl | rfl | rfl | rfl
  · exact ⟨0, rfl, by decide, rfl, by decide⟩
  · exact ⟨1, rfl, by decide, rfl, by decide⟩
  · exact ⟨2, rfl, by decide, rfl, by decide⟩
  · exact ⟨3, rfl, by decide, rfl, by decide⟩
def vaS (s v : ByteArray) : ByteArray := (s ++ ⟨#[32]⟩) ++ atB v
def teS (s : ByteArray) (t : Lb.Trm) : ByteArray := (((s ++ ⟨#[32, 40, 116, 101, 114, 109, 32]⟩) ++ t.key) ++ ⟨#[32]⟩) ++ opsB t.op
def tmS (s : ByteArray) (t : Lb.Trm) : ByteArray := t.vals.foldl vaS (teS s t) ++ ⟨#[41]⟩
def beS (s : ByteArray) (b : Tol) : ByteArray := if b.any = true
  then ((((s ++ ⟨#[32, 40, 98, 101, 97, 114, 97, 110, 121, 32]⟩) ++ atB b.key) ++ ⟨#[32]⟩) ++ efwB b.eff) ++ ⟨#[41]⟩
  else ((((((s ++ ⟨#[32, 40, 98, 101, 97, 114, 32]⟩) ++ atB b.key) ++ ⟨#[32]⟩) ++ atB b.val) ++ ⟨#[32]⟩) ++ efwB b.eff) ++ ⟨#[41]⟩
def poS (s : ByteArray) (n : Int) : ByteArray := s ++ nuB ⟨#[112, 111, 114, 116]⟩ n
def hdB (p : Pd) : ByteArray := ((((((((((⟨#[40, 112, 111, 100, 32]⟩ ++ p.nm) ++ ⟨#[32, 40, 110, 101, 101, 100, 32]⟩) ++ showM p.n0) ++ ⟨#[32]⟩) ++ showV p.n1) ++ ⟨#[32]⟩) ++ showV p.n2) ++ ⟨#[32]⟩) ++ itoaB p.n4) ++ ⟨#[41]⟩)
def h2B (p : Pd) : ByteArray := ((hdB p ++ prB ⟨#[108, 97, 98, 101, 108]⟩ p.labs) ++ prB ⟨#[115, 101, 108, 101, 99, 116]⟩ p.sels) ++ prB ⟨#[97, 112, 97, 114, 116]⟩ p.aprs
def t1B (p : Pd) : ByteArray := p.trms.foldl tmS (h2B p)
def b1B (p : Pd) : ByteArray := p.bers.foldl beS (t1B p)
def p1B (p : Pd) : ByteArray := p.prts.foldl poS (b1B p)
def r1B (p : Pd) : ByteArray := ((p1B p ++ nuB ⟨#[115, 112, 114, 101, 97, 100]⟩ p.sw) ++ prB ⟨#[111, 118, 101, 114]⟩ p.spds) ++ nuB ⟨#[114, 97, 110, 107]⟩ p.rk
def o1B (p : Pd) : ByteArray := if p.ow = emp then r1B p else ((r1B p ++ ⟨#[32, 40, 111, 119, 110, 101, 114, 32]⟩) ++ p.ow) ++ ⟨#[41]⟩
def f1B (p : Pd) : ByteArray := ((((o1B p ++ flB ⟨#[119, 105, 100, 101]⟩ p.wd) ++ flB ⟨#[100, 97, 101, 109, 111, 110]⟩ p.dm) ++ flB ⟨#[112, 105, 110, 110, 101, 100]⟩ p.pn) ++ flB ⟨#[108, 111, 99, 97, 108]⟩ p.lc) ++ ⟨#[41]⟩
/-- A pod as text. -/
def showP (p : Pd) : ByteArray := if rightP p = true then f1B p else emp
/-- What is asked of the numbers and lists of a right pod. -/
structure RtP (p : Pd) : Prop where
  n4 : 0 ≤ p.n4 ∧ p.n4 ≤ 9223372036854775807
  sw : 0 ≤ p.sw ∧ p.sw ≤ 1000
  rk : 0 ≤ p.rk ∧ p.rk ≤ 1000
  op : ∀ t ∈ p.trms, t.op = 1 ∨ t.op = 2 ∨ t.op = 3 ∨ t.op = 4 ∨ t.op = 5 ∨ t.op = 6
  ef : ∀ b ∈ p.bers, reB b.eff = true
  po : ∀ n ∈ p.prts, 0 ≤ n ∧ n ≤ 65535
  tl : p.trms.length ≤ 16
  bl : p.bers.length ≤ 16
  pl : p.prts.length ≤ 16
theorem prtsTo_in : ∀ {l : List Int} {last : Int}, 0 ≤ last → prtsTo last l = true → ∀ n ∈ l, 0 ≤ n ∧ n ≤ 65535
  | [], _, _, _, n, h => by cases h
  | x :: l, last, h0, h, n, hn => by
    unfold prtsTo at h
    rw [Bool.and_eq_true, Bool.not_eq_true', Bool.or_eq_false_iff, decide_eq_false_iff_not, decide_eq_false_iff_not] at h
    rcases List.mem_cons.1 hn with rfl | hn
    · omega
    · exact prtsTo_in (by omega) h.2 n hn
theorem rtp_of {p : Pd} (h : rightP p = true) : RtP p := by
  unfold rightP at h
  simp only [Bool.and_eq_true, decide_eq_true_eq] at h
  obtain ⟨⟨⟨⟨⟨⟨⟨⟨⟨⟨⟨⟨⟨b0, b1⟩, b2⟩, b3⟩, b4⟩, b5⟩, b6⟩, b7⟩, b8⟩, b9⟩, ba⟩, bb⟩, bc⟩, bd⟩ := h
  have h2 := (rtB_iff _ _ _ _ _).1 b2
  unfold trmsB at b8
  unfold rightO at b9
  unfold prtsB at ba
  unfold skewB inB at bc
  unfold inB at bd
  rw [Bool.and_eq_true, decide_eq_true_eq] at b8 b9 ba
  rw [decide_eq_true_eq] at bd
  refine ⟨by omega, ?_, by omega, fun t ht => Lb.rtrm_op (List.all_eq_true.1 b8.1 t ht), fun b hb => ?_, prtsTo_in (Int.le_refl _) ba.1, b8.2, b9.2, ba.2⟩
  · split at bc
    · rw [decide_eq_true_eq] at bc
      omega
    · rw [decide_eq_true_eq] at bc
      omega
  · have h9 := List.all_eq_true.1 b9.1 b hb
    unfold okO at h9
    simp only [Bool.and_eq_true] at h9
    exact h9.1.2
end Go.Proofs.YtccplljbljpjpaaDoor
