/-
  What each call on a provider keeps, and that names are all different: in plain words.
-/
import Derived.Test.YtcfdejlbchdciaaGreatDoorClP
import Derived.Test.YtcfdejlbchdciaaGreatDoorClB
import Derived.Test.YtcfdejlbchdciaaGreatDoorGMach
import Derived.Test.YtcfdejlbchdciaaGreatDoorGNumP
import Derived.Test.YtcfdejlbchdciaaGreatDoorMF
namespace Go.Proofs.YtcfdejlbchdciaaGreatDoor
open Go.RowKit
set_option linter.unusedVariables false
set_option linter.unusedSimpArgs false

section
variable {s : CS} {m : Nat}
theorem CS.Ok.up (h : s.Ok m) {n : Nat} (hn : m ≤ n) : s.Ok n :=
  ⟨h.ln, h.g16, h.nd, h.gb, fun j g p hg hp => by
    obtain ⟨h1, h2, h3, h4⟩ := h.tb j g p hg hp
    exact ⟨h1, h2, h3, by omega⟩, h.ib, by have := h.lb; omega, h.db, by
    obtain ⟨h1, h2, h3, h4⟩ := h.nb
    exact ⟨h1, by omega, h3, by omega⟩⟩
theorem CS.Ok.pset (h : s.Ok m) {j : Nat} {y : Pl} (hy : ∀ g, s.G[j]? = some g → g.mn ≤ y.t ∧ y.t ≤ g.mx ∧ 0 ≤ y.la ∧ y.la ≤ 200 * (m : Int)) : CS.Ok { s with P := s.P.set j y } m :=
  ⟨by rw [List.length_set]; exact h.ln, h.g16, h.nd, h.gb, fun k g p hg hp => by
    dsimp only at hg hp
    by_cases e : j = k
    · subst e
      have hl : j < s.P.length := by
        have := (List.getElem?_eq_some_iff.1 hp).1
        rw [List.length_set] at this
        exact this
      rw [List.getElem?_set_self hl] at hp
      obtain rfl := Option.some.inj hp
      exact hy g hg
    · rw [List.getElem?_set_ne e] at hp
      exact h.tb k g p hg hp, h.ib, h.lb, h.db, h.nb⟩
theorem CS.Ok.iset (h : s.Ok m) {k : Nat} {y : Ins} (hy : (∃ j, fndK s.G y.gp = some j) ∧ 0 ≤ y.lf ∧ y.lf ≤ 1000 ∧ (y.st = 1 → 1 ≤ y.lf) ∧ 1 ≤ y.st ∧ y.st ≤ 4 ∧ y.nm.size ≤ 1000 ∧ (y.st = 2 ∨ y.st = 4 → y.lf = 0) ∧ y.si ≤ s.nw ∧ 0 ≤ y.si) : CS.Ok { s with L := s.L.set k y } m :=
  ⟨h.ln, h.g16, h.nd, h.gb, h.tb, fun x hx => by
    rcases List.mem_or_eq_of_mem_set hx with hx | rfl
    · exact h.ib x hx
    · exact hy, by rw [List.length_set]; exact h.lb, h.db, h.nb⟩
theorem CS.Ok.call (h : s.Ok m) : CS.Ok { s with ca := s.ca + 1 } (m + 1) := by
  have h' := h.up (Nat.le_succ m)
  obtain ⟨h1, h2, h3, h4⟩ := h.nb
  exact ⟨h'.ln, h'.g16, h'.nd, h'.gb, h'.tb, h'.ib, h'.lb, h'.db, ⟨h1, by dsimp only; omega, by dsimp only; omega, by dsimp only; omega⟩⟩
theorem CS.Ok.brk (h : s.Ok m) (nm : ByteArray) (is : Bool) : (s.brk nm is).1.Ok m := by
  unfold CS.brk
  cases hf : fndK s.G nm with
  | none => exact h
  | some j =>
    dsimp only
    cases hp : s.P[j]? with
    | none => exact h
    | some p => exact h.pset fun g hg => h.tb j g p hg hp
theorem CS.Ok.fail (h : s.Ok m) (nm : ByteArray) : (s.fail nm).1.Ok m := by
  unfold CS.fail
  cases hf : fndI s.L nm with
  | none => exact h
  | some k =>
    dsimp only
    cases hx : s.L[k]? with
    | none => exact h
    | some x =>
      dsimp only
      split
      · obtain ⟨h1, h2, h3, h4, h5, h6, h7, h8, h9, h10⟩ := h.ib x (List.mem_of_getElem? hx)
        exact h.iset ⟨h1, Int.le_refl _, by dsimp only; omega, fun e => by dsimp only at e; omega, by dsimp only; omega, by dsimp only; omega, h7, fun _ => rfl, h9, h10⟩
      · exact h
theorem CS.Ok.dec (h : s.Ok m) (nm : ByteArray) (n : Int) : (s.dec nm n).1.Ok (m + 1) := by
  have h' := h.up (Nat.le_succ m)
  unfold CS.dec
  cases hf : fndK s.G nm with
  | none => exact h'
  | some j =>
    dsimp only
    cases hg : s.G[j]? with
    | none => exact h'
    | some g =>
      cases hp : s.P[j]? with
      | none => exact h'
      | some p =>
        dsimp only
        split
        · exact h'
        · split
          · exact h'
          · obtain ⟨h1, h2, h3, h4⟩ := h.tb j g p hg hp
            exact (h.pset (y := ⟨p.t - n, p.la, p.br⟩) fun g2 hg2 => by
              rw [hg] at hg2
              obtain rfl := Option.some.inj hg2
              exact ⟨by dsimp only; omega, by dsimp only; omega, h3, h4⟩).call
theorem CS.Ok.del (h : s.Ok m) (nm : ByteArray) : (s.del nm).1.Ok (m + 1) := by
  have h' := h.up (Nat.le_succ m)
  unfold CS.del
  cases hf : fndI s.L nm with
  | none => exact h'
  | some k =>
    dsimp only
    cases hx : s.L[k]? with
    | none => exact h'
    | some x =>
      dsimp only
      cases hj : fndK s.G x.gp with
      | none => exact h'
      | some j =>
        dsimp only
        cases hg : s.G[j]? with
        | none => exact h'
        | some g =>
          cases hp : s.P[j]? with
          | none => exact h'
          | some p =>
            dsimp only
            split
            · exact h'
            · split
              · exact h'
              · obtain ⟨h1, h2, h3, h4⟩ := h.tb j g p hg hp
                obtain ⟨b0, b1, b2, b3, _⟩ := h.gb g (List.mem_of_getElem? hg)
                obtain ⟨i1, i2, i3, i4, i5, i6, i7, i8, i9, i10⟩ := h.ib x (List.mem_of_getElem? hx)
                exact ((h.iset (k := k) (y := { x with st := 3, lf := 1 }) ⟨i1, by dsimp only; omega, by dsimp only; omega, fun e => by dsimp only at e; omega, by dsimp only; omega, by dsimp only; omega, i7, fun e => by dsimp only at e; omega, i9, i10⟩).pset (j := j) (y := ⟨max g.mn (p.t - 1), p.la, p.br⟩) fun g2 hg2 => by
                  dsimp only at hg2
                  rw [hg] at hg2
                  obtain rfl := Option.some.inj hg2
                  exact ⟨by dsimp only; omega, by dsimp only; omega, h3, h4⟩).call
theorem CS.Ok.tick (h : s.Ok m) : s.tick.Ok (m + 1) := by
  have h' := h.up (Nat.le_succ m)
  obtain ⟨n1, n2, n3, n4⟩ := h.nb
  refine ⟨h'.ln, h'.g16, h'.nd, h'.gb, h'.tb, ?_, ?_, h'.db, ⟨by unfold CS.tick; dsimp only; omega, by unfold CS.tick; dsimp only; omega, n3, by unfold CS.tick; dsimp only; omega⟩⟩
  · intro y hy
    unfold CS.tick at hy
    dsimp only at hy
    obtain ⟨x, hx, e⟩ := List.mem_filterMap.1 hy
    obtain ⟨i1, i2, i3, i4, i5, i6, i7, i8, i9, i10⟩ := h.ib x hx
    have hw : s.tick.nw = s.nw + 1 := rfl
    have hG : s.tick.G = s.G := rfl
    rw [hw, hG]
    unfold tickI at e
    split at e
    · cases e
    · split at e
      · rename_i h3 h1
        have := i4 h1
        split at e
        · obtain rfl := Option.some.inj e
          refine ⟨i1, Int.le_refl _, by dsimp only; omega, fun e => ?_, ?_, ?_, i7, fun _ => rfl, by dsimp only; omega, i10⟩
          · dsimp only at e
            split at e <;> omega
          · dsimp only
            split <;> omega
          · dsimp only
            split <;> omega
        · obtain rfl := Option.some.inj e
          refine ⟨i1, by dsimp only; omega, by dsimp only; omega, fun e => by dsimp only; omega, i5, i6, i7, fun e => by dsimp only at e ⊢; omega, by dsimp only; omega, i10⟩
      · obtain rfl := Option.some.inj e
        exact ⟨i1, i2, i3, i4, i5, i6, i7, i8, by omega, i10⟩
  · have h1 : s.tick.L.length ≤ s.L.length := List.length_filterMap_le _ _
    have := h.lb
    omega
end
def CS.ticks (s : CS) : Nat → CS
  | 0 => s
  | t + 1 => (s.ticks t).tick
/-- What is coming takes no longer than the delay. -/
def CS.Cb (s : CS) : Prop := ∀ x ∈ s.L, x.st = 1 → x.lf ≤ s.dl
theorem ticks_dl (s : CS) : ∀ t, (s.ticks t).dl = s.dl
  | 0 => rfl
  | t + 1 => ticks_dl s t
theorem CS.Ok.ticks {s : CS} {m : Nat} (h : s.Ok m) : ∀ t, (s.ticks t).Ok (m + t)
  | 0 => h
  | t + 1 => (CS.Ok.ticks h t).tick
theorem ticks_left {s : CS} (h : s.Cb) : ∀ t, ∀ x ∈ (s.ticks t).L, (1 ≤ t → x.st ≠ 3) ∧ (x.st = 1 → x.lf + (t : Int) ≤ s.dl)
  | 0 => fun x hx => ⟨fun e => by omega, fun e => by have := h x hx e; simpa using this⟩
  | t + 1 => fun y hy => by
    have ih := ticks_left h t
    unfold CS.ticks CS.tick at hy
    dsimp only at hy
    obtain ⟨x, hx, e⟩ := List.mem_filterMap.1 hy
    obtain ⟨_, i2⟩ := ih x hx
    unfold tickI at e
    split at e
    · cases e
    · rename_i h3
      split at e
      · rename_i h1
        have := i2 h1
        split at e
        · obtain rfl := Option.some.inj e
          refine ⟨fun _ => ?_, fun e => ?_⟩
          · dsimp only
            split <;> omega
          · dsimp only at e
            split at e <;> omega
        · obtain rfl := Option.some.inj e
          refine ⟨fun _ => h3, fun _ => ?_⟩
          dsimp only
          omega
      · rename_i h1
        obtain rfl := Option.some.inj e
        exact ⟨fun _ => h3, fun e => absurd e h1⟩
theorem ticks_settled {s : CS} {m t : Nat} (h : s.Ok m) (hc : s.Cb) (ht : s.dl < (t : Int)) : ∀ x ∈ (s.ticks t).L, (x.st = 2 ∨ x.st = 4) ∧ x.lf = 0 := fun x hx => by
  obtain ⟨h3, h1⟩ := ticks_left hc t x hx
  obtain ⟨_, i2, i3, i4, i5, i6, _, i8, _, _⟩ := (h.ticks t).ib x hx
  have hd := h.db
  have hn3 : x.st ≠ 3 := h3 (by omega)
  have hn1 : x.st ≠ 1 := fun e => by
    have := h1 e
    have := i4 e
    omega
  have hs : x.st = 2 ∨ x.st = 4 := by omega
  exact ⟨hs, i8 hs⟩
theorem filterMap_same {L : List Ins} {f : Ins → Option Ins} (h : ∀ x ∈ L, f x = some x) : L.filterMap f = L := by
  induction L with
  | nil => rfl
  | cons x L ih => rw [List.filterMap_cons, h x (List.mem_cons_self ..), ih fun y hy => h y (List.mem_cons_of_mem _ hy)]
theorem tick_same {s : CS} (h : ∀ x ∈ s.L, x.st = 2 ∨ x.st = 4) : s.tick.L = s.L := filterMap_same fun x hx => by
  have := h x hx
  unfold tickI
  rw [if_neg (by omega), if_neg (by omega)]
theorem tick_calls (s : CS) : s.tick.ca = s.ca := rfl
theorem fndK_nd : ∀ {l : List Gk} {j : Nat} {g : Gk}, (l.map Gk.nm).Nodup → l[j]? = some g → fndK l g.nm = some j
  | [], j, g, _, h => by simp at h
  | x :: l, 0, g, hn, h => by
    obtain rfl : x = g := by simpa using h
    unfold fndK
    rw [if_pos rfl]
  | x :: l, j + 1, g, hn, h => by
    rw [List.map_cons, List.nodup_cons] at hn
    have hg : l[j]? = some g := by simpa using h
    have hne : ¬ x.nm = g.nm := fun e => hn.1 (e ▸ List.mem_map.2 ⟨g, List.mem_of_getElem? hg, rfl⟩)
    unfold fndK
    rw [if_neg hne, fndK_nd hn.2 hg]
    rfl
theorem CS.Ok.tgt_bd {s : CS} {m : Nat} (h : s.Ok m) {j : Nat} {g : Gk} (hg : s.G[j]? = some g) : g.mn ≤ s.tgt g.nm ∧ s.tgt g.nm ≤ g.mx := by
  have hl : j < s.P.length := by
    rw [h.ln]
    exact (List.getElem?_eq_some_iff.1 hg).1
  have hp : s.P[j]? = some s.P[j] := List.getElem?_eq_getElem hl
  have e : s.tgt g.nm = (s.P[j]).t := by
    unfold CS.tgt
    rw [fndK_nd h.nd hg]
    dsimp only
    rw [hp]
  rw [e]
  obtain ⟨h1, h2, _, _⟩ := h.tb j g _ hg hp
  exact ⟨h1, h2⟩
theorem grpM_nm (g : Gp) (n : Int) : (grpM g n).nm = mnm g.nm n := by
  unfold grpM mnm
  split <;> rfl
theorem MO.mac {w : World} {base : Nat} {m : Mac} (h : MO w base m) (hl : m.labs.length ≤ maxLen) (ht : m.tnts.length ≤ maxLen) : MacIn w m := by
  have rl : LabL w m.la m.labs := by
    obtain ⟨a, k, e, hc⟩ := own_rows kcs_len h.l (by decide)
    injection e with e1 e2 e3
    exact fun h0 => by
      obtain ⟨g, h1, h2, h3, h4⟩ := hc h0
      exact ⟨g, 0, e1.trans h1, h3, h4⟩
  have rt : TntsAt w m.ta m.tnts := by
    obtain ⟨a, k, e, hc⟩ := own_rows tcs_len h.t (by decide)
    injection e with e1 e2 e3
    exact fun h0 => by
      obtain ⟨g, h1, h2, h3, h4⟩ := hc h0
      exact ⟨g, 0, e1.trans h1, h3, h4⟩
  exact ⟨⟨rl, rt, hl, ht⟩, own_nilok h.l, own_cap h.l, own_nilok h.t, own_cap h.t⟩
theorem mnm_size (nm : ByteArray) (n : Int) (h : nm.size ≤ 300) : (mnm nm n).size ≤ 1000 := by
  unfold mnm
  split
  · have h1 := dg_small n.toNat (by omega)
    rw [ByteArray.size_append, ByteArray.size_append]
    have h2 : (⟨#[45]⟩ : ByteArray).size = 1 := rfl
    omega
  · exact Nat.zero_le _
theorem mem_moreI {nm : ByteArray} {la : Int} {like x : Ins} {n : Nat} (h : x ∈ moreI nm la like n) : ∃ k : Nat, k < n ∧ x = { like with nm := mnm nm (la + 1 + (k : Int)), gp := nm } := by
  unfold moreI at h
  obtain ⟨k, hk, rfl⟩ := List.mem_map.1 h
  exact ⟨k, List.mem_range.1 hk, rfl⟩
theorem moreI_len (nm : ByteArray) (la : Int) (like : Ins) (n : Nat) : (moreI nm la like n).length = n := by
  unfold moreI
  rw [List.length_map, List.length_range]
theorem CS.Ok.inc {s : CS} {m : Nat} (h : s.Ok m) (nm : ByteArray) (n : Int) : (s.inc nm n).1.Ok (m + 1) := by
  have h' := h.up (Nat.le_succ m)
  unfold CS.inc
  cases hf : fndK s.G nm with
  | none => exact h'
  | some j =>
    dsimp only
    cases hg : s.G[j]? with
    | none => exact h'
    | some g =>
      cases hp : s.P[j]? with
      | none => exact h'
      | some p =>
        dsimp only
        split
        · exact h'
        · split
          · exact h'
          · split
            · exact h'
            · obtain ⟨g9, hg9, hnm⟩ := fndK_lt hf
              rw [hg] at hg9
              obtain rfl := Option.some.inj hg9
              obtain ⟨h1, h2, h3, h4⟩ := h.tb j g p hg hp
              obtain ⟨b0, b1, b2, b3, b4⟩ := h.gb g (List.mem_of_getElem? hg)
              obtain ⟨d1, d2⟩ := h.db
              obtain ⟨n1, n2, n3, n4⟩ := h.nb
              have hn : (n.toNat : Int) = n := by omega
              have h9 := h'.pset (j := j) (y := ⟨p.t + (n.toNat : Int), p.la + (n.toNat : Int), p.br⟩) fun g2 hg2 => by
                rw [hg] at hg2
                obtain rfl := Option.some.inj hg2
                exact ⟨by dsimp only; omega, by dsimp only; omega, by dsimp only; omega, by dsimp only; push_cast; omega⟩
              refine ⟨h9.ln, h9.g16, h9.nd, h9.gb, h9.tb, ?_, ?_, h9.db, ⟨n1, by dsimp only [CS.req]; omega, by dsimp only [CS.req]; omega, by dsimp only [CS.req]; omega⟩⟩
              · intro x hx
                rcases List.mem_append.1 hx with hx | hx
                · exact h.ib x hx
                · obtain ⟨k, hk, rfl⟩ := mem_moreI hx
                  refine ⟨⟨j, by dsimp only [CS.req]; rw [hnm]; exact hf⟩, by dsimp only; omega, by dsimp only; omega, fun _ => by dsimp only; omega, by dsimp only; omega, by dsimp only; omega, mnm_size _ _ b4, fun e => by dsimp only at e; omega, by dsimp only [CS.req]; omega, by dsimp only; omega⟩
              · have hl := h.lb
                show (s.L ++ moreI g.nm p.la ⟨emp, emp, 1, s.dl, s.nw⟩ n.toNat).length ≤ 3200 * (m + 1)
                rw [List.length_append, moreI_len]
                omega
theorem dec_is (k : Nat) : (Lib.decDigits k).all isDb = true := by
  rw [List.all_eq_true]
  exact fun c hc => decide_eq_true (dec_digits k c hc)
theorem split_last : ∀ {A B D E : List UInt8}, A ++ 45 :: D = B ++ 45 :: E → (∀ c ∈ D, c ≠ 45) → (∀ c ∈ E, c ≠ 45) → A = B ∧ D = E := by
  intro A B D E h hD hE
  rcases List.append_eq_append_iff.1 h with ⟨a, h1, h2⟩ | ⟨a, h1, h2⟩
  · cases a with
    | nil => exact ⟨by rw [h1, List.append_nil], by simpa using h2⟩
    | cons x a =>
      rw [List.cons_append, List.cons.injEq] at h2
      exact absurd rfl (hD 45 (by rw [h2.2]; simp))
  · cases a with
    | nil => exact ⟨by rw [h1, List.append_nil], by simpa using h2.symm⟩
    | cons x a =>
      rw [List.cons_append, List.cons.injEq] at h2
      exact absurd rfl (hE 45 (by rw [h2.2]; simp))
theorem dig_ne (k : Nat) : ∀ c ∈ Lib.decDigits k, c ≠ 45 := fun c hc e => by
  have := (dec_digits k c hc).1
  rw [e] at this
  exact absurd this (by decide)
theorem name_list (nm : ByteArray) (k : Nat) : (nameB nm k).data.toList = nm.data.toList ++ 45 :: Lib.decDigits k := by
  unfold nameB
  rw [ByteArray.data_append, ByteArray.data_append, Array.toList_append, Array.toList_append, List.append_assoc]
  rfl
/-- Machines of two numbers, or of two groups, have two names. -/
theorem name_inj {a b : ByteArray} {j k : Nat} (hj : 1 ≤ j) (hk : 1 ≤ k) (h : nameB a j = nameB b k) : a = b ∧ j = k := by
  have h2 : (nameB a j).data.toList = (nameB b k).data.toList := by rw [h]
  rw [name_list, name_list] at h2
  obtain ⟨h3, h4⟩ := split_last h2 (dig_ne j) (dig_ne k)
  refine ⟨ByteArray.ext (Array.toList_inj.1 h3), ?_⟩
  rw [← dec_num j hj, ← dec_num k hk, h4]
theorem mnm_inj {a b : ByteArray} {j k : Int} (hj : 1 ≤ j ∧ j ≤ 999999999) (hk : 1 ≤ k ∧ k ≤ 999999999) (h : mnm a j = mnm b k) : a = b ∧ j = k := by
  unfold mnm at h
  rw [if_pos hj, if_pos hk] at h
  obtain ⟨h1, h2⟩ := name_inj (a := a) (b := b) (j := j.toNat) (k := k.toNat) (by omega) (by omega) h
  exact ⟨h1, by omega⟩
/-- A name that was given: of a group, with a number that it has given. -/
def Given (s : CS) (t : ByteArray) : Prop := ∃ (j : Nat) (g : Gk) (p : Pl) (k : Int), s.G[j]? = some g ∧ s.P[j]? = some p ∧ t = mnm g.nm k ∧ 1 ≤ k ∧ k ≤ p.la
structure CS.Nm (s : CS) : Prop where
  own : ∀ x ∈ s.L, Given s x.nm
  nd : (s.L.map Ins.nm).Nodup
theorem given_pset {s : CS} {t : ByteArray} (h : Given s t) {i : Nat} {p y : Pl} (hp : s.P[i]? = some p) (hy : p.la ≤ y.la) : Given { s with P := s.P.set i y } t := by
  obtain ⟨j, g, p', k, hg, hp', e, h1, h2⟩ := h
  by_cases hij : i = j
  · subst hij
    rw [hp] at hp'
    obtain rfl := Option.some.inj hp'
    exact ⟨i, g, y, k, hg, by dsimp only; rw [List.getElem?_set_self (List.getElem?_eq_some_iff.1 hp).1], e, h1, by omega⟩
  · exact ⟨j, g, p', k, hg, by dsimp only; rw [List.getElem?_set_ne hij]; exact hp', e, h1, h2⟩
theorem moreI_names (nm : ByteArray) (la : Int) (like : Ins) (n : Nat) : (moreI nm la like n).map Ins.nm = (List.range n).map fun (k : Nat) => mnm nm (la + 1 + (k : Int)) := by
  unfold moreI
  rw [List.map_map]
  rfl
theorem nodup_more (nm : ByteArray) (la : Int) (h0 : 0 ≤ la) (like : Ins) : ∀ n : Nat, la + (n : Int) ≤ 999999999 → ((moreI nm la like n).map Ins.nm).Nodup
  | 0, _ => by simp [moreI]
  | n + 1, h => by
    rw [moreI_succ, List.map_append, List.nodup_append]
    refine ⟨nodup_more nm la h0 like n (by omega), by simp, ?_⟩
    intro a ha b hb e
    subst e
    rw [List.map_cons, List.map_nil, List.mem_singleton] at hb
    obtain ⟨x, hx, e⟩ := List.mem_map.1 ha
    obtain ⟨k, hk, rfl⟩ := mem_moreI hx
    have e2 : mnm nm (la + 1 + (k : Int)) = mnm nm (la + 1 + (n : Int)) := e.trans hb
    have := (mnm_inj (by omega) (by omega) e2).2
    omega
/-- What is given above the last number was not given. -/
theorem not_given {s : CS} {m : Nat} (h : s.Ok m) {j : Nat} {g : Gk} {p : Pl} (hg : s.G[j]? = some g) (hp : s.P[j]? = some p) {k : Int} (h1 : p.la < k) (h2 : k ≤ 999999999) (hm : 200 * (m : Int) ≤ 999999999) : ¬ Given s (mnm g.nm k) := by
  rintro ⟨j', g', p', k', hg', hp', e, h3, h4⟩
  obtain ⟨_, _, h5, h6⟩ := h.tb j' g' p' hg' hp'
  obtain ⟨_, _, h7, h8⟩ := h.tb j g p hg hp
  obtain ⟨en, ek⟩ := mnm_inj (by omega) (by omega) e
  have e1 := fndK_nd h.nd hg
  have e2 := fndK_nd h.nd hg'
  rw [en, e2] at e1
  obtain rfl := Option.some.inj e1
  rw [hp'] at hp
  obtain rfl := Option.some.inj hp
  omega
theorem CS.Nm.req {s : CS} {m n j : Nat} {g : Gk} {p : Pl} {like : Ins} (h : s.Nm) (hO : s.Ok m) (hm : 200 * (m : Int) ≤ 999999999) (hg : s.G[j]? = some g) (hp : s.P[j]? = some p) (hn : p.la + (n : Int) ≤ 999999999) : (s.req j g p like n).Nm := by
  obtain ⟨_, _, h3, _⟩ := hO.tb j g p hg hp
  refine ⟨fun x hx => ?_, ?_⟩
  · rcases List.mem_append.1 hx with hx | hx
    · exact given_pset (y := ⟨p.t + n, p.la + n, p.br⟩) (h.own x hx) hp (by dsimp only; omega)
    · obtain ⟨k, hk, rfl⟩ := mem_moreI hx
      exact ⟨j, g, ⟨p.t + n, p.la + n, p.br⟩, p.la + 1 + (k : Int), hg, by dsimp only [CS.req]; rw [List.getElem?_set_self (List.getElem?_eq_some_iff.1 hp).1], rfl, by omega, by dsimp only; omega⟩
  · show ((s.L ++ moreI g.nm p.la like n).map Ins.nm).Nodup
    rw [List.map_append, List.nodup_append]
    refine ⟨h.nd, nodup_more g.nm p.la h3 like n hn, ?_⟩
    intro a ha b hb e
    subst e
    obtain ⟨x, hx, e1⟩ := List.mem_map.1 ha
    obtain ⟨y, hy, e2⟩ := List.mem_map.1 hb
    obtain ⟨k, hk, rfl⟩ := mem_moreI hy
    have hgv := h.own x hx
    rw [e1, ← e2] at hgv
    exact not_given hO hg hp (k := p.la + 1 + (k : Int)) (by omega) (by omega) hm hgv
theorem tickI_nm {br : Bool} {x y : Ins} (h : tickI br x = some y) : y.nm = x.nm := by
  unfold tickI at h
  split at h
  · cases h
  · split at h
    · split at h
      · rw [← Option.some.inj h]
      · rw [← Option.some.inj h]
    · rw [← Option.some.inj h]
theorem names_sub {f : Ins → Option Ins} (hf : ∀ x y, f x = some y → y.nm = x.nm) : ∀ L : List Ins, ((L.filterMap f).map Ins.nm).Sublist (L.map Ins.nm)
  | [] => by simp
  | x :: L => by
    rw [List.filterMap_cons, List.map_cons]
    cases hx : f x with
    | none => exact (names_sub hf L).cons _
    | some y =>
      dsimp only
      rw [List.map_cons, hf x y hx]
      exact (names_sub hf L).cons_cons _
theorem CS.Nm.tick {s : CS} (h : s.Nm) : s.tick.Nm := by
  refine ⟨fun y hy => ?_, (names_sub (fun x y e => tickI_nm e) s.L).nodup h.nd⟩
  unfold CS.tick at hy
  dsimp only at hy
  obtain ⟨x, hx, e⟩ := List.mem_filterMap.1 hy
  rw [tickI_nm e]
  exact h.own x hx
end Go.Proofs.YtcfdejlbchdciaaGreatDoor
