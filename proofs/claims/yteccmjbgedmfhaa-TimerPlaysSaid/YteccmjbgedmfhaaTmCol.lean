/-
  maps.Keys, slices.Collect, maps.Clone, slices.DeleteFunc at this program's numbers: the library's own, laid; a map's keys, collected.
-/
import Derived.Test.YteccmjbgedmfhaaTm1
import Derived.Shelf.SlIter.Collect
import Derived.Shelf.SlMaps.Clone
import Derived.Shelf.SlicesE.DeleteFunc
import Derived.Lib.OwnBridge
namespace Go.Proofs.Yteccmjbgedmfhaa
section
open Go.Shelf Go.Proofs
set_option linter.unusedVariables false
set_option linter.unusedSimpArgs false

def cloneL_ren : Go.Shelf.Ren := ⟨fun | 5 => 29 | 7 => 39 | n => n, fun | 23 => 44 | 25 => 9 | 3 => 3 | 4 => 4 | 20 => 20 | n => n, fun | n => n⟩
theorem cloneL : Go.Proofs.SlLaysW.n5 Try.prog cloneL_ren := {
  mixed := by kernel_rfl
  f5 := ⟨Try.f29.name, by decide, Try.func29.trans (congrArg some (by kernel_rfl))⟩
  f7 := Try.func39.trans (congrArg some (by kernel_rfl))
  t4 := Try.underlying4
  a4 := Try.isAgg4
  z4 := Try.sizeOf4
  v4 := Try.zeroValue4
  t20 := Try.underlying20
  a20 := Try.isAgg20
  z20 := Try.sizeOf20
  v20 := Try.zeroValue20
  t23 := Try.underlying44
  a23 := Try.isAgg44
  z23 := Try.sizeOf44
  v23 := Try.zeroValue44 }
def keysL_ren : Go.Shelf.Ren := ⟨fun | 7 => 31 | 10 => 42 | n => n, fun | 23 => 44 | 26 => 9 | 3 => 3 | 28 => 63 | 0 => 0 | 27 => 62 | 33 => 69 | 4 => 4 | n => n, fun | n => n⟩
theorem keysL : Go.Proofs.SlLaysZ.n7 Try.prog keysL_ren := {
  mixed := by kernel_rfl
  f7 := ⟨Try.f31.name, by decide, Try.func31.trans (congrArg some (by kernel_rfl))⟩
  f10 := ⟨Try.f42.name, by decide, Try.func42.trans (congrArg some (by kernel_rfl))⟩
  t0 := Try.underlying0
  a0 := Try.isAgg0
  z0 := Try.sizeOf0
  v0 := Try.zeroValue0
  t4 := Try.underlying4
  a4 := Try.isAgg4
  z4 := Try.sizeOf4
  v4 := Try.zeroValue4
  t23 := Try.underlying44
  a23 := Try.isAgg44
  z23 := Try.sizeOf44
  v23 := Try.zeroValue44
  t26 := Try.underlying9
  a26 := Try.isAgg9
  z26 := Try.sizeOf9
  v26 := Try.zeroValue9
  t27 := Try.underlying62
  a27 := Try.isAgg62
  z27 := Try.sizeOf62
  v27 := Try.zeroValue62
  t28 := Try.underlying63
  a28 := Try.isAgg63
  z28 := Try.sizeOf63
  v28 := Try.zeroValue63
  t33 := Try.underlying69
  a33 := Try.isAgg69
  z33 := Try.sizeOf69
  v33 := Try.zeroValue69 }
def collL_ren : Go.Shelf.Ren := ⟨fun | 8 => 40 | 11 => 46 | n => n, fun | 26 => 9 | 28 => 63 | 24 => 29 | 0 => 0 | 33 => 69 | 4 => 4 | n => n, fun | n => n⟩
theorem collL : Go.Proofs.SlLaysZ.n8 Try.prog collL_ren := {
  mixed := by kernel_rfl
  f8 := ⟨Try.f40.name, by decide, Try.func40.trans (congrArg some (by kernel_rfl))⟩
  f11 := ⟨Try.f46.name, by decide, Try.func46.trans (congrArg some (by kernel_rfl))⟩
  t0 := Try.underlying0
  a0 := Try.isAgg0
  z0 := Try.sizeOf0
  v0 := Try.zeroValue0
  t24 := Try.underlying29
  a24 := Try.isAgg29
  z24 := Try.sizeOf29
  v24 := Try.zeroValue29
  t26 := Try.underlying9
  a26 := Try.isAgg9
  z26 := Try.sizeOf9
  v26 := Try.zeroValue9
  t28 := Try.underlying63
  a28 := Try.isAgg63
  z28 := Try.sizeOf63
  v28 := Try.zeroValue63
  i26 := by kernel_rfl }
def delL_ren : Go.Shelf.Ren := ⟨fun | 10 => 36 | 6 => 45 | n => n, fun | 22 => 29 | 23 => 9 | 25 => 69 | 3 => 3 | 4 => 4 | 0 => 0 | n => n, fun | n => n⟩
theorem delL : Go.Proofs.SlLaysH.n10 Try.prog delL_ren := {
  mixed := by kernel_rfl
  f6 := ⟨Try.f45.name, by decide, Try.func45.trans (congrArg some (by kernel_rfl))⟩
  f10 := ⟨Try.f36.name, by decide, Try.func36.trans (congrArg some (by kernel_rfl))⟩
  t0 := Try.underlying0
  a0 := Try.isAgg0
  z0 := Try.sizeOf0
  v0 := Try.zeroValue0
  t3 := Try.underlying3
  a3 := Try.isAgg3
  z3 := Try.sizeOf3
  v3 := Try.zeroValue3
  t4 := Try.underlying4
  a4 := Try.isAgg4
  z4 := Try.sizeOf4
  v4 := Try.zeroValue4
  t22 := Try.underlying29
  a22 := Try.isAgg29
  z22 := Try.sizeOf29
  v22 := Try.zeroValue29
  a23 := Try.isAgg9
  z23 := Try.sizeOf9
  t25 := Try.underlying69
  a25 := Try.isAgg69
  z25 := Try.sizeOf69
  v25 := Try.zeroValue69 }
end
open Go.RowKit
/-- A map's keys as a list without doubles. -/
theorem MapIs.keys {P : Program} {k : TypeId} {w : World} {b n : Nat} {f : ByteArray → Option Value} (h : MapIs P k w b n f) (K : Go.Maps.Keyed P k) (hk : P.underlying k = some .string) :
    ∃ D : DataW Value, w.ownsMap P k heldR b n D ∧ Go.Maps.size D ≤ n ∧ ∀ ss : List (List UInt8), ss.Perm (strKeys D) → ss.Nodup ∧ (∀ s : ByteArray, s.data.toList ∈ ss ↔ (f s).isSome = true) ∧ (∀ x ∈ ss, x.length ≤ maxLen) ∧ ss.length ≤ n := by
  obtain ⟨D, ho, r⟩ := h
  refine ⟨D, ho, ho.size_le, fun ss hp => ?_⟩
  have hle := strKeys_le ho hk
  have hsz := ho.size_le
  obtain ⟨es, e1, hpw, _⟩ := ho.entries K
  obtain ⟨es', e2, hko⟩ := ho.keysOf
  rw [e1] at e2
  obtain rfl : es = es' := by simpa using e2
  subst e1
  have hx : ∀ p ∈ es, ∃ x : List UInt8, p.1 = .string x := fun p hp => by
    obtain ⟨v, hv⟩ := hko p hp
    obtain ⟨x, _, hx, _⟩ := Go.Maps.keyOf_str hk hv
    exact ⟨x, hx⟩
  refine ⟨?_, ?_, fun x hx => hle x (hp.mem_iff.1 hx), ?_⟩
  · refine (hp.nodup_iff).2 ?_
    show (es.map fun p => strOf p.1).Nodup
    refine List.pairwise_map.2 (hpw.imp_of_mem fun {p q} hp' hq' hne e => hne ?_)
    obtain ⟨a, ha⟩ := hx p hp'
    obtain ⟨b, hb⟩ := hx q hq'
    rw [ha, hb] at e ⊢
    exact congrArg _ e
  · intro s
    rw [hp.mem_iff, ← (r s).1, Go.Maps.has_eq, List.any_eq_true]
    show s.data.toList ∈ (es.map fun p => strOf p.1) ↔ _
    rw [List.mem_map]
    constructor
    · rintro ⟨p, hp', hs⟩
      obtain ⟨a, ha⟩ := hx p hp'
      refine ⟨p, hp', ?_⟩
      rw [ha] at hs ⊢
      simpa [kyL, Lit.sameKey, strOf] using hs
    · rintro ⟨p, hp', hs⟩
      obtain ⟨a, ha⟩ := hx p hp'
      refine ⟨p, hp', ?_⟩
      rw [ha] at hs ⊢
      simpa [kyL, Lit.sameKey, strOf] using hs

  · rw [hp.length_eq]
    show (es.map fun p => strOf p.1).length ≤ n
    rw [List.length_map]
    exact hsz

theorem keys_any (mb : Nat) (w : World) : Calls Try.prog 31 #[.map (some mb)] w fun e w' => e = .returned (.func (.func 42) #[] #[.pointer (some ⟨w.heap.size, 0, none⟩)]) ∧ w' = w.alloc (.cells #[.map (some mb)] 44) :=
  callsIn_wide.1 (AnyZ.keys_in keysL Fence.wide 0 trivial rfl (some mb) w)

/-- What Collect hands back: the map's keys in some order. -/
structure Coll (w w' : World) (n : Nat) (f : ByteArray → Option Value) (v : Value) (l : List ByteArray) : Prop where
  own : w'.ownsRow w.heap.size 9 1 v l.length (l.map Value.string)
  nil : v = .slice none 0 0 ↔ l = []
  nd : l.Nodup
  mem : ∀ s, s ∈ l ↔ (f s).isSome = true
  le : ∀ s ∈ l, s.size ≤ maxLen
  len : l.length ≤ n
  below : Below w.heap.size w w'

theorem coll_any (Bm mb n : Nat) (f : ByteArray → Option Value) (w : World) (hm : w.cell? ⟨Bm, 0, none⟩ = some (.map (some mb))) (hB : Bm < w.heap.size) (h : MapIs Try.prog 9 w mb n f) (hn : n ≤ 1000000000) :
    Calls Try.prog 40 #[.func (.func 42) #[] #[.pointer (some ⟨Bm, 0, none⟩)]] w fun e w' => ∃ v l, e = .returned v ∧ Coll w w' n f v l := by
  obtain ⟨D, ho, hs, hp⟩ := h.keys law_str Try.underlying9
  have e37 : ∀ args w, (callFunc 42 args).run Try.prog w = .ok (.enter 42 args) w := enters_of Try.func42 (by kernel_rfl) rfl
  have hg := AnyZ.keys_gives (P := Try.prog) (ρ := keysL_ren) { keysL with } Fence.wide 10 trivial rfl (by decide) Bm mb n D w hB hm ho
  have hc := AnyZ.collect_in (P := Try.prog) (ρ := collL_ren) collL Fence.wide 12 trivial trivial rfl (by decide) 42 #[.pointer (some ⟨Bm, 0, none⟩)] trivial e37 (fun ss => ss.Perm (strKeys D)) (Go.Maps.size D) (by unfold maxLen; omega) (by omega) w hg
  refine (callsIn_wide.1 hc).mono ?_
  rintro e w' ⟨v, ss, rfl, hS, hrow, hnil, hb⟩
  obtain ⟨h1, h2, h3, h4⟩ := hp ss hS
  have hss : (ss.map fun l => (⟨l.toArray⟩ : ByteArray)).map Value.string = ss.map encStr := by
    rw [List.map_map]
    rfl
  refine ⟨v, ss.map fun l => ⟨l.toArray⟩, rfl, ?_, ?_, ?_, fun s => ?_, fun s hs => ?_, by simpa using h4, hb⟩
  · rw [hss, List.length_map]
    exact hrow
  · rw [hnil, List.map_eq_nil_iff]
  · refine List.pairwise_map.2 (h1.imp fun {a b} hne e => hne ?_)
    have := congrArg (fun x : ByteArray => x.data.toList) e
    simpa using this
  · rw [← h2 s, List.mem_map]
    constructor
    · rintro ⟨a, ha, rfl⟩
      simpa using ha
    · exact fun h => ⟨_, h, by simp⟩
  · obtain ⟨x, hx, rfl⟩ := List.mem_map.1 hs
    show x.toArray.size ≤ maxLen
    rw [List.size_toArray]
    exact h3 x hx


theorem MapIs.clone {w : World} {b n : Nat} {f : ByteArray → Option Value} (h : MapIs Try.prog 9 w b n f) :
    Calls Try.prog 29 #[.map (some b)] w fun e w' => e = .returned (.map (some w.heap.size)) ∧ MapIs Try.prog 9 w' w.heap.size n f ∧ w.heap.size < w'.heap.size ∧ Below w.heap.size w w' := by
  obtain ⟨D, ho, r⟩ := h
  exact (AnyW.maps_Clone_owns (P := Try.prog) (ρ := cloneL_ren) cloneL 9 heldR b n D w ho).mono fun e w' ⟨he, h1, _, h3⟩ => ⟨he, ⟨D, h1, r⟩, h1.lt, h3⟩


end Go.Proofs.Yteccmjbgedmfhaa
