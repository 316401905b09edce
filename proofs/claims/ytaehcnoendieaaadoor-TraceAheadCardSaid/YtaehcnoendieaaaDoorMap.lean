/-
  Maps keyed by strings as functions, whatever their elements are.
-/
import Derived.Test.YtaehcnoendieaaaDoorMA
import Derived.Maps.Own
import Derived.StringKeys
import Derived.Maps.OwnSet
import Derived.Maps.OwnOps
namespace Go.Proofs.YtaehcnoendieaaaDoor
open Go.RowKit
set_option linter.unusedVariables false
set_option linter.unusedSimpArgs false

/-- An element reads as itself. -/
def heldR (v : Value) : Option (DataW Value × List MemPlace) := some (.held v, [])
def kyL (s : ByteArray) : Lit := .string s.data.toList
theorem kyL_inj {a b : ByteArray} (h : kyL a = kyL b) : a = b := by
  unfold kyL at h
  injection h with h
  exact ByteArray.ext (Array.toList_inj.1 h)
theorem kyL_key (s : ByteArray) : WideAt.IsKeyLit (kyL s) := by
  unfold kyL WideAt.IsKeyLit
  trivial
def updF (f : ByteArray → Option Value) (s : ByteArray) (v : Option Value) : ByteArray → Option Value := fun x => if x = s then v else f x
theorem updF_same (f : ByteArray → Option Value) (s : ByteArray) (v : Option Value) : updF f s v s = v := if_pos rfl
theorem updF_other {f : ByteArray → Option Value} {s x : ByteArray} {v : Option Value} (h : x ≠ s) : updF f s v x = f x := if_neg h
/-- A block is a map of at most n entries that says this of each key. -/
def MapIs (P : Program) (k : TypeId) (w : World) (b n : Nat) (f : ByteArray → Option Value) : Prop :=
  ∃ D : DataW Value, w.ownsMap P k heldR b n D ∧ ∀ s, Go.Maps.has D (kyL s) = (f s).isSome ∧ ∀ z, D.atKey (kyL s) (.held z) = .held ((f s).getD z)
section
variable {P : Program} {k e t : TypeId} {w : World} {b n : Nat} {f : ByteArray → Option Value}
theorem MapIs.made (w : World) (P : Program) (k : TypeId) : MapIs P k (w.alloc (.map #[] 0)) w.heap.size 0 (fun _ => none) :=
  ⟨.map [], World.ownsMap_made w P k heldR, fun s => ⟨rfl, fun z => rfl⟩⟩
theorem MapIs.lt (h : MapIs P k w b n f) : b < w.heap.size := by
  obtain ⟨D, h, _⟩ := h
  exact h.lt
theorem MapIs.mono {m : Nat} (h : MapIs P k w b n f) (hm : n ≤ m) : MapIs P k w b m f := by
  obtain ⟨D, h, r⟩ := h
  exact ⟨D, h.mono hm, r⟩
theorem MapIs.kept {w' : World} {row : Option Nat} (h : MapIs P k w b n f) (hg : w.grownBy w' row) (hne : some b ≠ row) : MapIs P k w' b n f := by
  obtain ⟨D, h, r⟩ := h
  exact ⟨D, h.kept hg hne, r⟩
theorem MapIs.same {w' : World} (h : MapIs P k w b n f) (hg : w'.heap[b]? = w.heap[b]?) : MapIs P k w' b n f := by
  obtain ⟨D, ⟨es, clock, hb, r1⟩, r⟩ := h
  exact ⟨D, ⟨es, clock, hg.trans hb, r1⟩, r⟩
theorem MapIs.below {w' : World} (h : MapIs P k w b n f) (hb : Below w.heap.size w w') : MapIs P k w' b n f := h.same (hb.block b h.lt)
theorem MapIs.eq {g : ByteArray → Option Value} (h : MapIs P k w b n f) (e : ∀ s, f s = g s) : MapIs P k w b n g := by
  have : f = g := funext e
  exact this ▸ h
theorem MapIs.look_ok (h : MapIs P k w b n f) (K : Go.Maps.Keyed P k) (ht : P.underlying t = some (.map k e)) (hk : P.underlying k = some .string) {z : Value} (hz : (zeroValue e).run P w = .ok z w) {s : ByteArray} (hs : s.size ≤ maxLen) :
    (Instr.lookup t (.map (some b)) (.string s) true).run P w = .ok (.tuple #[(f s).getD z, .bool (f s).isSome]) w := by
  obtain ⟨D, h, r⟩ := h
  obtain ⟨v, ps, hr, hv⟩ := h.look_ok K ht hz (zd := .held z) (zp := []) rfl (Go.WideMaps.keyOf_string_mk hk hs)
  rw [hr]
  have hv2 : (some (DataW.held v, []) : Option (DataW Value × List MemPlace)) = some (D.atKey (kyL s) (.held z), ps) := hv
  rw [(r s).2 z] at hv2
  simp only [Option.some.injEq, Prod.mk.injEq, DataW.held.injEq] at hv2
  rw [hv2.1, ← (r s).1]
  rfl
theorem MapIs.look (h : MapIs P k w b n f) (K : Go.Maps.Keyed P k) (ht : P.underlying t = some (.map k e)) (hk : P.underlying k = some .string) {z : Value} (hz : (zeroValue e).run P w = .ok z w) {s : ByteArray} (hs : s.size ≤ maxLen) :
    (Instr.lookup t (.map (some b)) (.string s) false).run P w = .ok ((f s).getD z) w := by
  obtain ⟨D, h, r⟩ := h
  obtain ⟨v, ps, hr, hv⟩ := h.lookup K ht hz (zd := .held z) (zp := []) rfl (Go.WideMaps.keyOf_string_mk hk hs)
  rw [hr]
  have hv2 : (some (DataW.held v, []) : Option (DataW Value × List MemPlace)) = some (D.atKey (kyL s) (.held z), ps) := hv
  rw [(r s).2 z] at hv2
  simp only [Option.some.injEq, Prod.mk.injEq, DataW.held.injEq] at hv2
  rw [hv2.1]
theorem MapIs.put (h : MapIs P k w b n f) (K : Go.Maps.Keyed P k) (ht : P.underlying t = some (.map k e)) (hk : P.underlying k = some .string) (hn : n < maxLen) {s : ByteArray} (hs : s.size ≤ maxLen) (v : Value) :
    ∃ w', (Instr.mapUpdate t (.map (some b)) (.string s) v).run P w = .ok () w' ∧ MapIs P k w' b (n + 1) (updF f s (some v)) ∧ w.grownBy w' (some b) := by
  obtain ⟨D, h, r⟩ := h
  obtain ⟨w', hr, ho, hg⟩ := h.update K ht hn (Go.WideMaps.keyOf_string_mk hk hs) (val := v) (d := .held v) (ps := []) rfl
  refine ⟨w', hr, ⟨_, ho, fun x => ?_⟩, hg⟩
  by_cases hx : x = s
  · subst hx
    rw [updF_same]
    exact ⟨Go.Maps.has_put_same h.isMap (kyL_key x) _, fun z => Go.Maps.atKey_put_same h.isMap (kyL_key x) _ _⟩
  · rw [updF_other hx]
    have hne : kyL x ≠ kyL s := fun e => hx (kyL_inj e)
    exact ⟨(Go.Maps.has_put_other hne _).trans (r x).1, fun z => (Go.Maps.atKey_put_other hne _ _).trans ((r x).2 z)⟩
theorem MapIs.del (h : MapIs P k w b n f) (K : Go.Maps.Keyed P k) (ht : P.underlying t = some (.map k e)) (hk : P.underlying k = some .string) {s : ByteArray} (hs : s.size ≤ maxLen) (ty : TypeId) :
    ∃ w', (Builtin.delete_ #[t, k] ty #[.map (some b), .string s]).run P w = .ok (.tuple #[]) w' ∧ MapIs P k w' b n (updF f s none) ∧ w.mapTurned w' b := by
  obtain ⟨D, h, r⟩ := h
  obtain ⟨w', hr, ho, hg⟩ := h.drop K ht (Go.WideMaps.keyOf_string_mk hk hs) ty
  refine ⟨w', hr, ⟨_, ho, fun x => ?_⟩, hg⟩
  by_cases hx : x = s
  · subst hx
    rw [updF_same]
    exact ⟨Go.Maps.has_del_same, fun z => Go.Maps.atKey_del_same _⟩
  · rw [updF_other hx]
    have hne : kyL x ≠ kyL s := fun e => hx (kyL_inj e)
    exact ⟨(Go.Maps.has_del_other hne).trans (r x).1, fun z => (Go.Maps.atKey_del_other hne _).trans ((r x).2 z)⟩
end

section
variable {P : Program} {ops : Array Oper} {rest : List Oper} {o : Oper} {a : Act} {Q : Exit → Act → World → Prop} {w : World} {b n : Nat} {f : ByteArray → Option Value}
/-- 'm[k]' at the operation. -/
theorem at_look (hg : Region.wanted o (yielded ops a.tmps) = true) (m x : Operand) (t k e : TypeId) (hop : o.op = Op.lookup t m x false)
    (K : Go.Maps.Keyed P k) (ht : P.underlying t = some (.map k e)) (hk : P.underlying k = some .string) (z : Value) (hz : (zeroValue e).run P w = .ok z w)
    (h : MapIs P k w b n f) (hm : a.eval m = .map (some b)) (s : ByteArray) (hx : a.eval x = .string s) (hs : s.size ≤ maxLen)
    (hK : wpList P ops Q rest (a.put o.dst ((f s).getD z)) w) : wpList P ops Q (o :: rest) a w :=
  BigFrame.wpList_want hg fun K' hK' => by
    unfold Oper.wp
    simp [execOp, hop, hm, hx, h.look K ht hk hz hs, Result.andThen]
    exact hK' _ _ hK
/-- 'v, ok := m[k]' at the operation. -/
theorem at_look_ok (hg : Region.wanted o (yielded ops a.tmps) = true) (m x : Operand) (t k e : TypeId) (hop : o.op = Op.lookup t m x true)
    (K : Go.Maps.Keyed P k) (ht : P.underlying t = some (.map k e)) (hk : P.underlying k = some .string) (z : Value) (hz : (zeroValue e).run P w = .ok z w)
    (h : MapIs P k w b n f) (hm : a.eval m = .map (some b)) (s : ByteArray) (hx : a.eval x = .string s) (hs : s.size ≤ maxLen)
    (hK : wpList P ops Q rest (a.put o.dst (.tuple #[(f s).getD z, .bool (f s).isSome])) w) : wpList P ops Q (o :: rest) a w :=
  BigFrame.wpList_want hg fun K' hK' => by
    unfold Oper.wp
    simp [execOp, hop, hm, hx, h.look_ok K ht hk hz hs, Result.andThen]
    exact hK' _ _ hK
/-- 'm[k] = v' at the operation. -/
theorem at_put (hg : Region.wanted o (yielded ops a.tmps) = true) (m x v : Operand) (t k e : TypeId) (hop : o.op = Op.mapUpdate t m x v)
    (K : Go.Maps.Keyed P k) (ht : P.underlying t = some (.map k e)) (hk : P.underlying k = some .string)
    (h : MapIs P k w b n f) (hn : n < maxLen) (hm : a.eval m = .map (some b)) (s : ByteArray) (hx : a.eval x = .string s) (hs : s.size ≤ maxLen) (u : Value) (hu : a.eval v = u)
    (hK : ∀ w', MapIs P k w' b (n + 1) (updF f s (some u)) → w.grownBy w' (some b) → wpList P ops Q rest (a.put o.dst undef) w') : wpList P ops Q (o :: rest) a w :=
  BigFrame.wpList_want hg fun K' hK' => by
    obtain ⟨w', hr, h1, h2⟩ := h.put K ht hk hn hs u
    unfold Oper.wp
    simp [execOp, hop, hm, hx, hu, hr, Result.andThen]
    exact hK' _ _ (hK w' h1 h2)
/-- 'delete(m, k)' at the operation. -/
theorem at_del (hg : Region.wanted o (yielded ops a.tmps) = true) (m x : Operand) (t k e : TypeId) (hop : o.op = Op.call { callee := Callee.builtin Builtin.delete, args := #[m, x], argTypes := #[t, k] })
    (K : Go.Maps.Keyed P k) (ht : P.underlying t = some (.map k e)) (hk : P.underlying k = some .string)
    (h : MapIs P k w b n f) (hm : a.eval m = .map (some b)) (s : ByteArray) (hx : a.eval x = .string s) (hs : s.size ≤ maxLen)
    (hK : ∀ w', MapIs P k w' b n (updF f s none) → w.mapTurned w' b → wpList P ops Q rest (a.put o.dst (.tuple #[])) w') : wpList P ops Q (o :: rest) a w :=
  BigFrame.wpList_want hg fun K' hK' => by
    obtain ⟨w', hr, h1, h2⟩ := h.del K ht hk hs o.type
    unfold Oper.wp
    simp [execOp, hop, resolve, invoke, builtin, hm, hx, hr, Result.andThen]
    exact hK' _ _ (hK w' h1 h2)
end
end Go.Proofs.YtaehcnoendieaaaDoor
