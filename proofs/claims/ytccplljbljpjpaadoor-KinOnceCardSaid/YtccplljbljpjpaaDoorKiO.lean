/-
  Kin: KinOnce: what it speaks of, in plain words.
-/
import Derived.Test.YtccplljbljpjpaaDoorKiS
import Derived.Test.YtccplljbljpjpaaDoorKi8
namespace Go.Proofs.YtccplljbljpjpaaDoor
open Go.ChangeShapes Go.WideShapes Go.ChangeAt Go.RowKit
set_option linter.unusedVariables false
set_option linter.unusedSimpArgs false

theorem GrL.mono2 {w w' : World} {a : Option Addr} {G : List (List Int)} (h : GrL w a G) (hb : Below w.heap.size w w') : GrL w' a G := by
  obtain ⟨vs, hl, hr, hv⟩ := h
  refine ⟨vs, hl, hr.mono hb, fun i v g h1 h2 => ?_⟩
  obtain ⟨c, k, e, hk, hrow⟩ := hv i v g h1 h2
  exact ⟨c, k, e, hk, hrow.mono hb⟩
/-- One list of the lists, where it has a head. -/
theorem GrL.row {w : World} {b o : Nat} {G : List (List Int)} (h : GrL w (some ⟨b, o, none⟩) G) {k : Nat} {g : List Int} (hg : G[k]? = some g) (h0 : 0 < g.length) :
    ∃ c co kc, b < w.heap.size ∧ c < w.heap.size ∧ w.cell? ⟨b, o + k, none⟩ = some (.slice (some ⟨c, co, none⟩) g.length kc) ∧ ∀ (i : Nat) (x : Int), g[i]? = some x → w.cell? ⟨c, co + i, none⟩ = some (.int .i64 x) := by
  obtain ⟨vs, hl, hr, hv⟩ := h
  have hk : k < G.length := (List.getElem?_eq_some_iff.1 hg).1
  obtain ⟨v, hvk⟩ := mem_at (l := vs) (k := k) (by omega)
  obtain ⟨b', o', e, hb, hc⟩ := hr (by omega)
  injection e with e
  injection e with e1 e2
  subst e1 e2
  obtain ⟨c, kc, rfl, hkc, hrow⟩ := hv k v g hvk hg
  obtain ⟨cb, co, rfl, hcb, hcc⟩ := hrow h0
  have h9 := hc k _ hvk 0 (by decide)
  rw [Nat.mul_one, Nat.add_zero] at h9
  exact ⟨cb, co, kc, hb, hcb, h9, fun i x hx => icl_at hcc hx⟩
theorem GrL.addr {w : World} {a : Option Addr} {G : List (List Int)} (h : GrL w a G) (h0 : 0 < G.length) : ∃ b o, a = some ⟨b, o, none⟩ := by
  obtain ⟨vs, hl, hr, hv⟩ := h
  obtain ⟨b, o, e, _⟩ := hr (by omega)
  exact ⟨b, o, e⟩
theorem kgrown_set (w : World) (b i : Nat) (v : Value) : w.grownBy (w.setCell ⟨b, i, none⟩ v) (some b) :=
  ⟨rfl, rfl, rfl, by simp [World.setCell], fun k _ hk => Below.heap_setCell _ _ _ _ (fun e => hk (by simp [e]))⟩
/-- The pods at some places. -/
def pkP (l : List Pd) (xs : List Int) : List Pd := xs.filterMap fun x => l[x.toNat]?
theorem pkP_append (l : List Pd) (xs ys : List Int) : pkP l (xs ++ ys) = pkP l xs ++ pkP l ys := List.filterMap_append
theorem pkP_one {l : List Pd} {n : Nat} {p : Pd} (h : l[n]? = some p) : pkP l [(n : Int)] = [p] := by
  unfold pkP
  simp [h]
theorem pkP_mem {l : List Pd} {xs : List Int} : ∀ p ∈ pkP l xs, p ∈ l := fun p hp => by
  obtain ⟨x, _, hx⟩ := List.mem_filterMap.1 hp
  exact List.mem_of_getElem? hx
theorem pkP_len (l : List Pd) (xs : List Int) : (pkP l xs).length ≤ xs.length := List.length_filterMap_le _ _
theorem pkP_take (l : List Pd) : ∀ n : Nat, pkP l ((List.range n).map Int.ofNat) = l.take n
  | 0 => by simp [pkP]
  | n + 1 => by
    have e : pkP l [(n : Int)] = l[n]?.toList := by
      unfold pkP
      cases h : l[n]? <;> simp [h]
    rw [range_ofNat, pkP_append, pkP_take l n, List.take_add_one, e]
theorem pkP_perm {l : List Pd} {xs : List Int} (h : xs.Perm ((List.range l.length).map Int.ofNat)) : (pkP l xs).Perm l := by
  have h2 := h.filterMap fun x => l[x.toNat]?
  have h3 := pkP_take l l.length
  rw [List.take_length] at h3
  unfold pkP at h3 ⊢
  rwa [h3] at h2
theorem count_range : ∀ (n m : Nat), m < n → (((List.range n).map Int.ofNat).count (m : Int)) = 1
  | 0, m, h => by omega
  | n + 1, m, h => by
    have hz : ∀ (n m : Nat), n ≤ m → (((List.range n).map Int.ofNat).count (m : Int)) = 0 := fun n m h => by
      rw [List.count_eq_zero]
      intro hm
      obtain ⟨x, hx, e⟩ := List.mem_map.1 hm
      have := List.mem_range.1 hx
      have e2 : (x : Int) = (m : Int) := e
      omega
    rw [range_ofNat, List.count_append]
    by_cases hm : m = n
    · subst hm
      rw [hz m m (Nat.le_refl _)]
      simp
    · rw [count_range n m (by omega)]
      have : ¬ (n : Int) = (m : Int) := by omega
      simp [List.count_cons, this]
theorem grpK_ok {l : List Pd} (h : (grpK l).2 = 0) : (∀ p ∈ l, rightP p = true) ∧ ∃ D, GInv (l.map keyP) l.length D (grpK l).1 := by
  unfold grpK at h ⊢
  by_cases hr : l.all rightP = true
  · rw [if_pos hr] at h ⊢
    by_cases ht : twK (l.map Pd.nm) = true
    · rw [if_pos ht] at h
      exact absurd h (by decide)
    · rw [if_neg ht]
      obtain ⟨D, hD⟩ := grS_inv (l.map keyP)
      rw [List.length_map] at hD
      exact ⟨List.all_eq_true.1 hr, D, hD⟩
  · rw [if_neg hr] at h
    exact absurd h (by decide)
theorem grpK_bad {l : List Pd} (h : ¬ (grpK l).2 = 0) : (grpK l).1 = [] := by
  unfold grpK at h ⊢
  split
  · split
    · rfl
    · rename_i h1 h2
      rw [if_pos h1, if_neg h2] at h
      exact absurd rfl h
  · rfl
/-- What is known of one list: each of its places, and its head. -/
theorem GInv.pods {l : List Pd} {D : List ByteArray} {G : List (List Int)} (h : GInv (l.map keyP) l.length D G) {i : Nat} {g : List Int} (hg : G[i]? = some g) :
    ∃ d, D[i]? = some d ∧ ∀ (k : Nat) (x : Int), g[k]? = some x → ∃ (n : Nat) (p : Pd), x = (n : Int) ∧ n < l.length ∧ l[n]? = some p ∧ keyP p = d := by
  have hi : i < D.length := by rw [h.len]; exact (List.getElem?_eq_some_iff.1 hg).1
  refine ⟨D[i], List.getElem?_eq_getElem hi, fun k x hx => ?_⟩
  obtain ⟨n, e, hn, hk⟩ := h.mem i g _ hg (List.getElem?_eq_getElem hi) x (List.mem_of_getElem? hx)
  obtain ⟨p, hp⟩ := mem_at (l := l) (k := n) hn
  rw [List.getElem?_map, hp] at hk
  exact ⟨n, p, e, hn, hp, Option.some.inj hk⟩
theorem GInv.apart {K : List ByteArray} {n : Nat} {D : List ByteArray} {G : List (List Int)} (h : GInv K n D G) {i j : Nat} {d e : ByteArray} (hi : D[i]? = some d) (hj : D[j]? = some e) (hij : j < i) : ¬ d = e := fun he => by
  obtain ⟨p1, e1⟩ := List.getElem?_eq_some_iff.1 hi
  obtain ⟨p2, e2⟩ := List.getElem?_eq_some_iff.1 hj
  exact (List.pairwise_iff_getElem.1 h.nd) j i p2 p1 hij (by rw [e1, e2, he])
theorem alike_yes {p r : Pd} (hp : rightP p = true) (h : keyP p = keyP r) : alikeK p r = true := by
  unfold alikeK
  rw [decide_eq_true (key_yes hp), decide_eq_true h]
  rfl
theorem alike_no {p r : Pd} (h : ¬ keyP p = keyP r) : alikeK p r = false := by
  unfold alikeK
  rw [decide_eq_false h, Bool.and_false]
theorem kmadei (N : Nat) (V : World) (h : N ≤ 1000) : (Instr.makeSlice 29 (.int .i64 (N : Int)) (.int .i64 (N : Int))).run Tryd.prog V = .ok (.slice (some ⟨V.heap.size, 0, none⟩) N N) (V.alloc (.cells (madeCells #[.int .i64 0] N) 3)) :=
  run_make_row' 29 3 (.int .i64 0) 8 Tryd.underlying29 Tryd.info3 rfl .i64 .i64 N (by omega) (by omega) V
theorem made_cnt (n : Nat) : (madeCells #[.int .i64 0] n).toList = cntV [] n := by
  refine List.ext_getElem? fun i => ?_
  by_cases hi : i < n
  · rw [cntV_at _ hi, Array.getElem?_toList]
    simp [go_sem, madeCells, hi, Nat.mod_one]
  · rw [List.getElem?_eq_none (by rw [Array.length_toList, size_madeCells]; omega), List.getElem?_eq_none (by rw [cntV_len]; omega)]
theorem cnt_le {G : List (List Int)} {i k : Nat} {g : List Int} {n : Nat} (hg : G[i]? = some g) (hp : G.flatten.Perm ((List.range n).map Int.ofNat)) (x : Int) : ((G.take i).flatten ++ g.take k).count x ≤ n := by
  have h1 : ((G.take i).flatten ++ g.take k).Sublist G.flatten := by
    have h2 : G = G.take i ++ g :: G.drop (i + 1) := by
      obtain ⟨hi, e⟩ := List.getElem?_eq_some_iff.1 hg
      rw [← e, ← List.drop_eq_getElem_cons hi, List.take_append_drop]
    have h3 : G.flatten = (G.take i).flatten ++ (g ++ (G.drop (i + 1)).flatten) := by
      conv => lhs; rw [h2]
      rw [List.flatten_append, List.flatten_cons]
    rw [h3]
    exact List.Sublist.append_left ((List.take_sublist k g).trans (List.sublist_append_left _ _)) _
  refine Nat.le_trans (h1.count_le x) (Nat.le_trans List.count_le_length ?_)
  rw [hp.length_eq]
  simp
end Go.Proofs.YtccplljbljpjpaaDoor
