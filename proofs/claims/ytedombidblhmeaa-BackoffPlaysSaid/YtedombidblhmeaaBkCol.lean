/-
  A map's keys, collected: the library's contracts over maps as functions; the comparison of two numbers.
-/
import Derived.Test.YtedombidblhmeaaBkShf
import Derived.Lib.OwnBridge
namespace Go.Proofs.Ytedombidblhmeaa
open Go.RowKit
set_option linter.unusedVariables false

/-- A map's keys as a list without doubles. -/
theorem MapIs.keys {P : Program} {k : TypeId} {w : World} {b n : Nat} {f : ByteArray → Option Value} (h : MapIs P k w b n f) (K : Go.Maps.Keyed P k) (hk : P.underlying k = some .string) :
    ∃ D : DataW Value, w.ownsMap P k heldR b n D ∧ Go.Maps.size D ≤ n ∧ ∀ ss : List (List UInt8), ss.Perm (strKeys D) → ss.Nodup ∧ (∀ s : ByteArray, s.data.toList ∈ ss ↔ (f s).isSome = true) ∧ (∀ x ∈ ss, x.length ≤ maxLen) ∧ ss.length ≤ n := by
  obtain ⟨D, ho, r⟩ := h
  refine ⟨D, ho, ho.size_le, fun ss hp => ?_⟩
  have hle := strKeys_le ho hk
  have hsz := ho.size_le
  obtain ⟨es, e1, hpw, _⟩ := ho.entries K
  obtain ⟨es', e2, hko⟩ := ho.keysOf
  rw [e1] at e2
  obtain rfl : es = es' := by simpa using e2
  subst e1
  have hx : ∀ p ∈ es, ∃ x : List UInt8, p.1 = .string x := fun p hp => by
    obtain ⟨v, hv⟩ := hko p hp
    obtain ⟨x, _, hx, _⟩ := Go.Maps.keyOf_str hk hv
    exact ⟨x, hx⟩
  refine ⟨?_, ?_, fun x hx => hle x (hp.mem_iff.1 hx), ?_⟩
  · refine (hp.nodup_iff).2 ?_
    show (es.map fun p => strOf p.1).Nodup
    refine List.pairwise_map.2 (hpw.imp_of_mem fun {p q} hp' hq' hne e => hne ?_)
    obtain ⟨a, ha⟩ := hx p hp'
    obtain ⟨b, hb⟩ := hx q hq'
    rw [ha, hb] at e ⊢
    exact congrArg _ e
  · intro s
    rw [hp.mem_iff, ← (r s).1, Go.Maps.has_eq, List.any_eq_true]
    show s.data.toList ∈ (es.map fun p => strOf p.1) ↔ _
    rw [List.mem_map]
    constructor
    · rintro ⟨p, hp', hs⟩
      obtain ⟨a, ha⟩ := hx p hp'
      refine ⟨p, hp', ?_⟩
      rw [ha] at hs ⊢
      simpa [kyL, Lit.sameKey, strOf] using hs
    · rintro ⟨p, hp', hs⟩
      obtain ⟨a, ha⟩ := hx p hp'
      refine ⟨p, hp', ?_⟩
      rw [ha] at hs ⊢
      simpa [kyL, Lit.sameKey, strOf] using hs

  · rw [hp.length_eq]
    show (es.map fun p => strOf p.1).length ≤ n
    rw [List.length_map]
    exact hsz

theorem keys_any (mb : Nat) (w : World) : Calls Try.prog 31 #[.map (some mb)] w fun e w' => e = .returned (.func (.func 37) #[] #[.pointer (some ⟨w.heap.size, 0, none⟩)]) ∧ w' = w.alloc (.cells #[.map (some mb)] 49) :=
  callsIn_wide.1 (AnyZ.keys_in keysL Fence.wide 0 trivial rfl (some mb) w)

/-- What Collect hands back: the map's keys in some order. -/
structure Coll (w w' : World) (n : Nat) (f : ByteArray → Option Value) (v : Value) (l : List ByteArray) : Prop where
  own : w'.ownsRow w.heap.size 9 1 v l.length (l.map Value.string)
  nil : v = .slice none 0 0 ↔ l = []
  nd : l.Nodup
  mem : ∀ s, s ∈ l ↔ (f s).isSome = true
  le : ∀ s ∈ l, s.size ≤ maxLen
  len : l.length ≤ n
  below : Below w.heap.size w w'

theorem coll_any (Bm mb n : Nat) (f : ByteArray → Option Value) (w : World) (hm : w.cell? ⟨Bm, 0, none⟩ = some (.map (some mb))) (hB : Bm < w.heap.size) (h : MapIs Try.prog 9 w mb n f) (hn : n ≤ 1000000000) :
    Calls Try.prog 30 #[.func (.func 37) #[] #[.pointer (some ⟨Bm, 0, none⟩)]] w fun e w' => ∃ v l, e = .returned v ∧ Coll w w' n f v l := by
  obtain ⟨D, ho, hs, hp⟩ := h.keys law_str Try.underlying9
  have e37 : ∀ args w, (callFunc 37 args).run Try.prog w = .ok (.enter 37 args) w := enters_of Try.func37 (by kernel_rfl) rfl
  have hg := AnyZ.keys_gives (P := Try.prog) (ρ := keysL_ren) { keysL with } Fence.wide 10 trivial rfl (by decide) Bm mb n D w hB hm ho
  have hc := AnyZ.collect_in (P := Try.prog) (ρ := collL_ren) collL Fence.wide 12 trivial trivial rfl (by decide) 37 #[.pointer (some ⟨Bm, 0, none⟩)] trivial e37 (fun ss => ss.Perm (strKeys D)) (Go.Maps.size D) (by unfold maxLen; omega) (by omega) w hg
  refine (callsIn_wide.1 hc).mono ?_
  rintro e w' ⟨v, ss, rfl, hS, hrow, hnil, hb⟩
  obtain ⟨h1, h2, h3, h4⟩ := hp ss hS
  have hss : (ss.map fun l => (⟨l.toArray⟩ : ByteArray)).map Value.string = ss.map encStr := by
    rw [List.map_map]
    rfl
  refine ⟨v, ss.map fun l => ⟨l.toArray⟩, rfl, ?_, ?_, ?_, fun s => ?_, fun s hs => ?_, by simpa using h4, hb⟩
  · rw [hss, List.length_map]
    exact hrow
  · rw [hnil, List.map_eq_nil_iff]
  · refine List.pairwise_map.2 (h1.imp fun {a b} hne e => hne ?_)
    have := congrArg (fun x : ByteArray => x.data.toList) e
    simpa using this
  · rw [← h2 s, List.mem_map]
    constructor
    · rintro ⟨a, ha, rfl⟩
      simpa using ha
    · exact fun h => ⟨_, h, by simp⟩
  · obtain ⟨x, hx, rfl⟩ := List.mem_map.1 hs
    show x.toArray.size ≤ maxLen
    rw [List.size_toArray]
    exact h3 x hx

def cmpI (x y : Int) : Int := if x < y then -1 else if y < x then 1 else 0
theorem cmp_any (x y : Int) (w : World) : Calls Try.prog 34 #[.int .i64 x, .int .i64 y] w fun e w' => e = .returned (.int .i64 (cmpI x y)) ∧ w' = w := by
  by_cases h : x < y
  · have e : cmpI x y = -1 := if_pos h
    rw [e]
    go_enter Try.func34, Try.ntmps34
    go_wp2
    go_ret
    exact ⟨rfl, rfl⟩
  · by_cases h' : y < x
    · have e : cmpI x y = 1 := by unfold cmpI; rw [if_neg h, if_pos h']
      rw [e]
      go_enter Try.func34, Try.ntmps34
      go_wp2
      go_ret
      exact ⟨rfl, rfl⟩
    · have e : cmpI x y = 0 := by unfold cmpI; rw [if_neg h, if_neg h']
      rw [e]
      go_enter Try.func34, Try.ntmps34
      go_wp2
      go_ret
      exact ⟨rfl, rfl⟩
end Go.Proofs.Ytedombidblhmeaa
