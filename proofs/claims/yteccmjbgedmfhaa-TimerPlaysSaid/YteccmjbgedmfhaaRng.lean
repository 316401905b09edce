/-
  Ranges over maps keyed by strings, the map as a function: what is left to come, deletes in the round.
-/
import Derived.Test.YteccmjbgedmfhaaMap
import Derived.Maps.RangeWalk
import Derived.Maps.Range
import Derived.Sort.KeysCollected
namespace Go.Proofs.Yteccmjbgedmfhaa
open Go.RowKit
set_option linter.unusedVariables false
set_option linter.unusedSimpArgs false

theorem same_key (x s : ByteArray) : (kyL x).sameKey (kyL s) = decide (x = s) := by
  by_cases h : x = s
  · subst h; simp [kyL, Lit.sameKey]
  · rw [decide_eq_false h]
    cases hc : (kyL x).sameKey (kyL s) with
    | false => rfl
    | true =>
      have : x.data.toList = s.data.toList := by simpa [kyL, Lit.sameKey] using hc
      exact absurd (ByteArray.ext (Array.toList_inj.1 this)) h
/-- A range over the map b is under way: its walk lies at it, left says what is still to come. -/
def RngIs (P : Program) (k : TypeId) (w : World) (b it n : Nat) (f : ByteArray → Option Value) (left : Lit → Bool) (cnt : Nat) : Prop :=
  ∃ D : DataW Value, w.ranges P k heldR b it n D left cnt ∧ ∀ s, Go.Maps.has D (kyL s) = (f s).isSome ∧ ∀ z, D.atKey (kyL s) (.held z) = .held ((f s).getD z)
section
variable {P : Program} {k e t : TypeId} {w : World} {b it n cnt : Nat} {f : ByteArray → Option Value} {left : Lit → Bool}
theorem MapIs.no_cell (h : MapIs P k w b n f) (o : Nat) : w.cell? ⟨b, o, none⟩ = none := by
  obtain ⟨D, ⟨es, clock, hb, _⟩, _⟩ := h
  unfold World.cell?
  rw [show w.heap[(⟨b, o, none⟩ : Addr).block]? = _ from hb]
theorem MapIs.ne_cell {c o : Nat} {v : Value} (h : MapIs P k w b n f) (hc : w.cell? ⟨c, o, none⟩ = some v) : c ≠ b := fun e => by
  subst e
  rw [h.no_cell] at hc
  cases hc
theorem RngIs.map (h : RngIs P k w b it n f left cnt) : MapIs P k w b n f := by
  obtain ⟨D, h, r⟩ := h
  exact ⟨D, h.owns, r⟩
theorem RngIs.lt (h : RngIs P k w b it n f left cnt) : it < w.heap.size := by
  obtain ⟨D, h, r⟩ := h
  exact h.lt
theorem RngIs.ne (h : RngIs P k w b it n f left cnt) : it ≠ b := by
  obtain ⟨D, h, r⟩ := h
  exact h.ne
theorem RngIs.left_eq (h : RngIs P k w b it n f left cnt) : w.rangeLeft b it = cnt := by
  obtain ⟨D, h, r⟩ := h
  exact h.left_eq
theorem RngIs.kept {w' : World} {row : Option Nat} (h : RngIs P k w b it n f left cnt) (hg : w.grownBy w' row) (hb : some b ≠ row) (hr : some it ≠ row) : RngIs P k w' b it n f left cnt := by
  obtain ⟨D, h, r⟩ := h
  exact ⟨D, h.kept hg hb hr, r⟩
theorem RngIs.below {w' : World} (h : RngIs P k w b it n f left cnt) (hb : Below w.heap.size w w') : RngIs P k w' b it n f left cnt :=
  h.kept (row := none) ⟨hb.os, hb.tape, hb.output, hb.size, fun i hi _ => hb.block i hi⟩ (by simp) (by simp)
theorem RngIs.eq {g : ByteArray → Option Value} (h : RngIs P k w b it n f left cnt) (e : ∀ s, f s = g s) : RngIs P k w b it n g left cnt := by
  have : f = g := funext e
  exact this ▸ h
end
section
variable {P : Program} {ops : Array Oper} {rest : List Oper} {o : Oper} {a : Act} {Q : Exit → Act → World → Prop} {w : World} {b it n cnt : Nat} {f : ByteArray → Option Value} {left : Lit → Bool}
/-- 'range m'. -/
theorem at_rng (hg : o.guard = none) (m : Operand) (t k e : TypeId) (hop : o.op = Op.range t m) (K : Go.Maps.Keyed P k) (ht : P.underlying t = some (.map k e))
    (h : MapIs P k w b n f) (hm : a.eval m = .map (some b))
    (hK : ∀ w' left cnt, RngIs P k w' b w.heap.size n f left cnt → (∀ s, left (kyL s) = (f s).isSome) → w.grownBy w' none → w'.heap.size = w.heap.size + 1 → wpList P ops Q rest (a.put o.dst (.pointer (some ⟨w.heap.size, 0, none⟩))) w') : wpList P ops Q (o :: rest) a w := by
  obtain ⟨D, h, r⟩ := h
  exact wpList_range_own _ hg m t hop k e K ht heldR b n D hm h fun w' h1 h2 h3 => hK w' _ _ ⟨D, h1, r⟩ (fun s => (r s).1) h2 h3
/-- The next key. -/
theorem at_rng_next (hg : o.guard = none) (x : Operand) (hop : o.op = Op.next x false) (k : TypeId) (K : Go.Maps.Keyed P k) (hk : P.underlying k = some .string)
    (hit : a.eval x = .pointer (some ⟨it, 0, none⟩)) (h : RngIs P k w b it n f left cnt)
    (hDone : (∀ kl, left kl = false) → wpList P ops Q rest (a.put o.dst (.tuple #[.bool false])) w)
    (hMore : ∀ (s : ByteArray) (c : Value) (w' : World) (cnt' : Nat), s.size ≤ maxLen → left (kyL s) = true → (∀ z, (f s).getD z = c) → RngIs P k w' b it n f (fun z => left z && !z.sameKey (kyL s)) cnt' → cnt' < cnt →
      w.grownBy w' (some it) → w'.heap.size = w.heap.size → (Instr.entry (.pointer (some ⟨it, 0, none⟩))).run P w' = .ok (.tuple #[.string s, c]) w' → wpList P ops Q rest (a.put o.dst (.tuple #[.bool true, .string s, c])) w') : wpList P ops Q (o :: rest) a w := by
  obtain ⟨D, h, r⟩ := h
  have inv : ∀ key kl, keyOf P k key = some kl → ∃ s : ByteArray, key = .string s ∧ kl = kyL s ∧ s.size ≤ maxLen := fun key kl hv => by
    obtain ⟨x, h1, h2, h3⟩ := Go.Maps.keyOf_str hk hv
    subst h1
    exact ⟨⟨x.toArray⟩, rfl, by unfold kyL; rw [h2], by show x.toArray.size ≤ _; simpa using h3⟩
  refine wpList_next_ranges _ hg x hop k K heldR Value.string id (fun key kl hv => by obtain ⟨s, h, _⟩ := inv key kl hv; exact ⟨s, h⟩) (fun v _ _ => ⟨v, rfl⟩) b it n D left cnt hit h (fun _ hl => hDone hl) ?_
  intro s c kl y w' cnt' hkey hl hv hat hr hlt hg' hs hen
  obtain ⟨s', e1, rfl, hsz⟩ := inv _ _ hkey
  injection e1 with e1
  subst e1
  refine hMore s c w' cnt' hsz hl (fun z => ?_) ⟨D, hr, r⟩ hlt hg' hs hen
  have h1 := hat (.held z)
  rw [(r s).2 z] at h1
  have h2 : (some (DataW.held c, []) : Option (DataW Value × List MemPlace)) = some y := hv
  obtain rfl := Option.some.inj h2
  injection h1
/-- 'delete(m, k)' in the round. -/
theorem at_rng_del (hg : o.guard = none) (m x : Operand) (t k e : TypeId) (hop : o.op = Op.call { callee := Callee.builtin Builtin.delete, args := #[m, x], argTypes := #[t, k] })
    (K : Go.Maps.Keyed P k) (ht : P.underlying t = some (.map k e)) (hk : P.underlying k = some .string) (h : RngIs P k w b it n f left cnt) (hm : a.eval m = .map (some b)) (s : ByteArray) (hx : a.eval x = .string s) (hs : s.size ≤ maxLen)
    (hK : ∀ w' cnt', RngIs P k w' b it n (updF f s none) (fun z => left z && !z.sameKey (kyL s)) cnt' → cnt' ≤ cnt → w.mapTurned w' b → wpList P ops Q rest (a.put o.dst (.tuple #[])) w') : wpList P ops Q (o :: rest) a w := by
  obtain ⟨D, h, r⟩ := h
  refine wpList_delete_ranges _ hg m x t k hop e K ht heldR b it n D left cnt hm h (.string s) (kyL s) hx (Go.WideMaps.keyOf_string_mk hk hs) fun w' cnt' hr hc ht' => hK w' cnt' ⟨_, hr, fun z => ?_⟩ hc ht'
  by_cases hz : z = s
  · subst hz
    rw [updF_same]
    exact ⟨Go.Maps.has_del_same, fun z => Go.Maps.atKey_del_same _⟩
  · rw [updF_other hz]
    have hne : kyL z ≠ kyL s := fun e => hz (kyL_inj e)
    exact ⟨(Go.Maps.has_del_other hne).trans (r z).1, fun u => (Go.Maps.atKey_del_other hne _).trans ((r z).2 u)⟩
end
end Go.Proofs.Yteccmjbgedmfhaa
