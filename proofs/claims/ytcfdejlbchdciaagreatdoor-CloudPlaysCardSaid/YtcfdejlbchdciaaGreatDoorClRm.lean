/-
  The document's provider: place, Size, Break, Fail, Decrease, Delete.
-/
import Derived.Test.YtcfdejlbchdciaaGreatDoorClRt
namespace Go.Proofs.YtcfdejlbchdciaaGreatDoor
open Go.RowKit
set_option linter.unusedVariables false
set_option linter.unusedSimpArgs false

section
variable {w0 w : World} {b : Nat} {ga : Option Addr} {gka : Nat} {G : List Gp} {s : CS} {tv lav bv lv : Value}
/-- What lies there of a group. -/
theorem RT.at (h : RT w0 w b ga gka G s tv lav bv lv) (hP : s.P.length = s.G.length) {j : Nat} {g : Gk} (hg : s.G[j]? = some g) : ∃ (p : Pl) (qt kt ql kl qb kb gb go : Nat), s.P[j]? = some p ∧ tv = .slice (some ⟨qt, 0, none⟩) s.P.length kt ∧ lav = .slice (some ⟨ql, 0, none⟩) s.P.length kl ∧ bv = .slice (some ⟨qb, 0, none⟩) s.P.length kb ∧ ga = some ⟨gb, go, none⟩ ∧
    w.cell? ⟨qt, j, none⟩ = some (.int .i64 p.t) ∧ w.cell? ⟨ql, j, none⟩ = some (.int .i64 p.la) ∧ w.cell? ⟨qb, j, none⟩ = some (.bool p.br) ∧ w.cell? ⟨gb, go + j * 15, none⟩ = some (.string g.nm) ∧ w.cell? ⟨gb, go + j * 15 + 1, none⟩ = some (.int .i64 g.mn) ∧ w.cell? ⟨gb, go + j * 15 + 2, none⟩ = some (.int .i64 g.mx) ∧ qt < w.heap.size ∧ ql < w.heap.size ∧ qb < w.heap.size ∧ gb < w0.heap.size := by
  have hj := lt_at hg
  obtain ⟨p, hp⟩ := mem_at (l := s.P) (k := j) (by rw [hP]; exact hj)
  have h0 : 0 < s.P.length := by have := lt_at hp; omega
  obtain ⟨a1, k1, e1, f1⟩ := h.tAt
  obtain ⟨a2, k2, e2, f2⟩ := h.lAt
  obtain ⟨a3, k3, e3, f3⟩ := h.bAt
  obtain ⟨q1, rfl, l1, d1⟩ := f1 h0
  obtain ⟨q2, rfl, l2, d2⟩ := f2 h0
  obtain ⟨q3, rfl, l3, d3⟩ := f3 h0
  have hz : G.length = s.G.length := by rw [← h.gk, List.length_map]
  obtain ⟨g', hg'⟩ := mem_at (l := G) (k := j) (by omega)
  have hgg : gkOf g' = g := by
    have h9 : (G.map gkOf)[j]? = some (gkOf g') := by rw [List.getElem?_map, hg']; rfl
    rw [h.gk, hg] at h9
    exact (Option.some.inj h9).symm
  obtain ⟨gb, go, rfl, hgb, hgc⟩ := h.gl (by omega)
  have hc := fun r hr => (h.bl.cell (p := ⟨gb, go + j * 15 + r, none⟩) hgb).trans (hgc j g' hg' r hr)
  refine ⟨p, q1, k1, q2, k2, q3, k3, gb, go, hp, e1, e2, e3, rfl, d1 j p hp, d2 j p hp, d3 j p hp, ?_, ?_, ?_, l1, l2, l3, hgb⟩
  · rw [← hgg]; exact hc 0 (by decide)
  · rw [← hgg]; exact hc 1 (by decide)
  · rw [← hgg]; exact hc 2 (by decide)
end

set_option maxRecDepth 100000 in
set_option maxHeartbeats 2000000 in
theorem rplace_any (w0 : World) (b : Nat) (ga : Option Addr) (gka : Nat) (G : List Gp) (s : CS) (tv lav bv lv : Value) (key : ByteArray) (w : World) (h : RT w0 w b ga gka G s tv lav bv lv) (hL : s.L.length ≤ 1000000) :
    Calls Tryz.prog 52 #[.pointer (some ⟨b, 0, none⟩), .string key] w fun e w' => e = .returned (.int .i64 (plI s.L key)) ∧ Below w.heap.size w w' := by
  have c4 := h.row.cell 4
  dsimp only [List.getElem?_cons_zero, List.getElem?_cons_succ] at c4
  obtain ⟨a, k0, e0, hI⟩ := h.iAt
  have HI := Lib.hid hI
  obtain ⟨L, hM⟩ : ∃ L, s.L = L := ⟨_, rfl⟩
  rw [hM] at HI e0 hL ⊢
  obtain ⟨n, hn⟩ : ∃ n, L.length = n := ⟨_, rfl⟩
  have HN := Lib.hid hn
  rw [hn] at e0 hL
  rw [e0] at c4
  clear h hI hM hn e0
  go_enter Tryz.func52, Tryz.ntmps52
  go_wp2
  go_loop [5] (fun i => ∃ k : Nat, k ≤ n ∧ i = .int .i64 k ∧ ∀ (j : Nat) (y : Ins), j < k → L[j]? = some y → y.nm ≠ key) (fun i => n - (intOf i).toNat)
  case atStart => exact ⟨0, Nat.zero_le _, rfl, fun _ _ h => by omega⟩
  case round =>
    obtain ⟨k, hk, rfl, hA⟩ := hrel
    have HA := Lib.hid hA
    clear hA
    by_cases hlt : k < n
    · obtain ⟨x, hx⟩ := mem_at (l := L) (k := k) (by rw [HN.out]; exact hlt)
      obtain ⟨q, rfl, hq, hc⟩ := HI.out (by rw [HN.out]; omega)
      have d0 : w.cell? ⟨q, k * 5, none⟩ = some (.string x.nm) := hc k x hx 0 (by decide)
      have Hx := Lib.hid hx
      clear hc hx
      by_cases he : x.nm = key
      · have HR := Lib.hid (show plI L key = (k : Int) from plI_some (fndI_at Hx.out he HA.out))
        have k1 : (x.nm.toList == key.toList) = true := ctx_eq he
        clear he
        go_wp2
        go_ret
        exact ⟨by rw [HR.out]; rfl, by (repeat' (first | with_reducible exact Below.refl _ _ | with_reducible assumption | with_reducible refine Below.drew ?_ | with_reducible refine below_drewN' ?_ _ | with_reducible refine Below.alloc ?_ ?_ _ | with_reducible refine Below.setCell ?_ ?_ _ | with_reducible refine below_step (by assumption) ?_ ?_ | omega | (simp; done) | (simp; omega)))⟩
      · have He := Lib.hid he
        have k1 : (x.nm.toList == key.toList) = false := ctx_ne he
        clear he
        go_wp2
        go_round
        case rel => exact ⟨k + 1, by omega, by go_num, fun j y hj hy => by
          by_cases e : j = k
          · subst e
            obtain rfl : x = y := Option.some.inj (Hx.out.symm.trans hy)
            exact He.out
          · exact HA.out j y (by omega) hy⟩
        case measure => simp [intOf]; omega
    · obtain rfl : k = n := by omega
      have HR := Lib.hid (show plI L key = -1 from plI_none (fndI_none fun j y hy => HA.out j y (by have := lt_at hy; rw [HN.out] at this; exact this) hy))
      go_wp2
      go_ret
      exact ⟨by rw [HR.out]; rfl, by (repeat' (first | with_reducible exact Below.refl _ _ | with_reducible assumption | with_reducible refine Below.drew ?_ | with_reducible refine below_drewN' ?_ _ | with_reducible refine Below.alloc ?_ ?_ _ | with_reducible refine Below.setCell ?_ ?_ _ | with_reducible refine below_step (by assumption) ?_ ?_ | omega | (simp; done) | (simp; omega)))⟩

set_option maxRecDepth 100000 in
set_option maxHeartbeats 4000000 in
theorem rsize_any (w0 : World) (b : Nat) (ga : Option Addr) (gka : Nat) (G : List Gp) (s : CS) (tv lav bv lv : Value) (key : ByteArray) (w : World) (h : RT w0 w b ga gka G s tv lav bv lv) (hL : s.L.length ≤ 1000000) :
    Calls Tryz.prog 53 #[.pointer (some ⟨b, 0, none⟩), .string key] w fun e w' => e = .returned (.int .i64 (sizeI s.L key)) ∧ Below w.heap.size w w' := by
  have c4 := h.row.cell 4
  dsimp only [List.getElem?_cons_zero, List.getElem?_cons_succ] at c4
  obtain ⟨a, k0, e0, hI⟩ := h.iAt
  have HI := Lib.hid hI
  obtain ⟨L, hM⟩ : ∃ L, s.L = L := ⟨_, rfl⟩
  rw [hM] at HI e0 hL ⊢
  obtain ⟨n, hn⟩ : ∃ n, L.length = n := ⟨_, rfl⟩
  have Hn := Lib.hid hn
  rw [hn] at e0 hL
  rw [e0] at c4
  clear h hI hM hn e0
  go_enter Tryz.func53, Tryz.ntmps53
  go_wp2
  go_loop [5, 6] (fun vn vi => ∃ k : Nat, k ≤ n ∧ vi = .int .i64 k ∧ vn = .int .i64 (sizeI (L.take k) key)) (fun _ vi => n - (intOf vi).toNat)
  case atStart => exact ⟨0, Nat.zero_le _, rfl, rfl⟩
  case round =>
    obtain ⟨k, hk, rfl, rfl⟩ := hrel
    by_cases hlt : k < n
    · obtain ⟨x, hx⟩ := mem_at (l := L) (k := k) (by rw [Hn.out]; exact hlt)
      obtain ⟨q, rfl, hq, hc⟩ := HI.out (by rw [Hn.out]; omega)
      have d1 : w.cell? ⟨q, k * 5 + 1, none⟩ = some (.string x.gp) := hc k x hx 1 (by decide)
      have d2 : w.cell? ⟨q, k * 5 + 2, none⟩ = some (.int .i64 x.st) := hc k x hx 2 (by decide)
      have hst := Lib.hid (sizeI_take hx key)
      have hcl := sizeI_le (L.take k) key
      have h8 : (L.take k).length ≤ k := List.length_take_le _ _
      obtain ⟨z, hz⟩ : ∃ z, sizeI (L.take k) key = z := ⟨_, rfl⟩
      rw [hz] at hcl hst ⊢
      clear hc hx hz
      by_cases hg : x.gp = key
      · have k1 := ctx_eq hg
        by_cases h3 : x.st = 3
        · have k3 : (x.st != 3) = false := by rw [h3]; rfl
          have He := Lib.hid (show sizeI (L.take (k + 1)) key = z from by rw [hst.out, if_neg (fun h => h.2 h3)]; rfl)
          clear h3 hg
          go_wp2
          go_round
          case rel => exact ⟨k + 1, by omega, by go_num, by rw [He.out]⟩
          case measure => simp [intOf]; omega
        · have k3 : (x.st != 3) = true := by simpa using h3
          have He := Lib.hid (show sizeI (L.take (k + 1)) key = z + 1 from by rw [hst.out, if_pos ⟨hg, h3⟩])
          clear h3 hg
          go_wp2
          go_round
          case rel => exact ⟨k + 1, by omega, by go_num, by rw [He.out]; go_num⟩
          case measure => simp [intOf]; omega
      · have k1 := ctx_ne hg
        have He := Lib.hid (show sizeI (L.take (k + 1)) key = z from by rw [hst.out, if_neg (fun h => hg h.1)]; rfl)
        clear hg
        go_wp2
        go_round
        case rel => exact ⟨k + 1, by omega, by go_num, by rw [He.out]⟩
        case measure => simp [intOf]; omega
    · obtain rfl : k = n := by omega
      have He := Lib.hid (show sizeI (L.take k) key = sizeI L key by rw [List.take_of_length_le (Nat.le_of_eq Hn.out)])
      go_wp2
      go_ret
      exact ⟨by rw [← He.out]; rfl, by (repeat' (first | with_reducible exact Below.refl _ _ | with_reducible assumption | with_reducible refine Below.drew ?_ | with_reducible refine below_drewN' ?_ _ | with_reducible refine Below.alloc ?_ ?_ _ | with_reducible refine Below.setCell ?_ ?_ _ | with_reducible refine below_step (by assumption) ?_ ?_ | omega | (simp; done) | (simp; omega)))⟩

set_option maxRecDepth 100000 in
set_option maxHeartbeats 4000000 in
theorem rbrk_any (w0 : World) (b : Nat) (ga : Option Addr) (gka : Nat) (G : List Gp) (s : CS) (tv lav bv lv : Value) (key : ByteArray) (is : Bool) (w : World) (h : RT w0 w b ga gka G s tv lav bv lv) (hG : G.length ≤ 1000) (hP : s.P.length = s.G.length) :
    Calls Tryz.prog 29 #[.pointer (some ⟨b, 0, none⟩), .string key, .bool is] w fun e w' => e = .returned (.int .i64 (s.brk key is).2) ∧ RT w0 w' b ga gka G (s.brk key is).1 tv lav bv lv ∧ Only bv.ownBlock.toList w w' := by
  have c0 := h.row.cell 0
  have c3 := h.row.cell 3
  dsimp only [List.getElem?_cons_zero, List.getElem?_cons_succ] at c0 c3
  have hbl := h.row.lt
  have HF := Lib.hid (reffind_any ga G gka key w h.groups (by unfold maxLen; omega))
  have Hh := Lib.hid h
  have hgk := h.gk
  obtain ⟨gn, hgn⟩ : ∃ gn, G.length = gn := ⟨_, rfl⟩
  rw [hgn] at c0 HF
  cases hf : fndK s.G key with
  | none =>
    have hT : s.brk key is = (s, 16) := by unfold CS.brk; rw [hf]
    have hA : findA G key 0 = -1 := findA_none (by rw [hgk]; exact hf)
    rw [hA] at HF
    rw [hT]
    clear hf hgk h hgn
    go_enter Tryz.func29, Tryz.ntmps29
    go_wp2_with (go_at_call 50; (with_reducible refine HF.out.mono ?_); rintro e w2 ⟨rfl, hb2⟩; have HB2 := Lib.hid hb2; clear hb2)
    go_ret
    exact ⟨rfl, Hh.out.below HB2.out, Only.of_below HB2.out⟩
  | some j =>
    obtain ⟨g, hg, _⟩ := fndK_lt hf
    obtain ⟨p, qt, kt, ql, kl, qb, kb, gb, go, hp, rfl, rfl, rfl, rfl, d0, d1, d2, _, _, _, l1, l2, l3, l4⟩ := h.at hP hg
    have hT : s.brk key is = ({ s with P := s.P.set j ⟨p.t, p.la, is⟩ }, 0) := by
      unfold CS.brk
      rw [hf]
      dsimp only
      rw [hp]
    have hA : findA G key 0 = (j : Int) := findA_some (by rw [hgk]; exact hf)
    rw [hA] at HF
    rw [hT]
    have f2 := h.br.frozenAt j
    have hjn : j < s.P.length := lt_at hp
    obtain ⟨N, hN⟩ : ∃ N, s.P.length = N := ⟨_, rfl⟩
    rw [hN] at c3 hjn
    have HN := Lib.hid hN
    have Hp := Lib.hid hp
    have k1 : decide ((j : Int) < 0) = false := decide_eq_false (by omega)
    have hji : (j : Int) < (N : Int) := by omega
    have hj0 : (0 : Int) ≤ (j : Int) := by omega
    clear hf hgk hg hp hN h hgn hP d0 d1 hT hA
    go_enter Tryz.func29, Tryz.ntmps29
    go_wp2_with (go_at_call 50; (with_reducible refine HF.out.mono ?_); rintro e w2 ⟨rfl, hb2⟩; have HB2 := Lib.hid hb2; obtain ⟨hc2, hf2⟩ := bcell hb2; clear hb2)
    go_ret
    refine ⟨rfl, (Hh.out.below HB2.out).bset rfl is Hp.out, (Only.of_below HB2.out).setCell (.inl (by simp [Value.ownBlock])) _⟩
end Go.Proofs.YtcfdejlbchdciaaGreatDoor
