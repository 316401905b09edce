/-
  Suit: sharesPort.
-/
import Derived.Test.YthbpnfpalcgfeaaSu2
import Derived.Test.YthbpnfpalcgfeaaPd1
import Derived.Test.YthbpnfpalcgfeaaSuI
namespace Go.Proofs.Ythbpnfpalcgfeaa
open Go.RowKit
set_option linter.unusedVariables false
set_option linter.unusedSimpArgs false

def prtIn (PP : List Int) (x : Int) : Bool := PP.any (Lb.intB x)
def prtsIn (PP : List Int) (b : Bd) : Bool := b.p.prts.any (prtIn PP)
/-- Some port of theirs is among these. -/
def shareQ (L : List Bd) (PP : List Int) : Bool := L.any (prtsIn PP)
theorem any_yes {α : Type} {P : α → Bool} {l : List α} {k : Nat} {x : α} (h : l[k]? = some x) (hp : P x = true) : l.any P = true := List.any_eq_true.2 ⟨x, List.mem_of_getElem? h, hp⟩
theorem any_all {α : Type} {P : α → Bool} {l : List α} {n : Nat} (hl : l.length = n) (h : (l.take n).any P = false) : l.any P = false := by rw [← hl, List.take_length] at h; exact h
theorem any_next {α : Type} {P : α → Bool} {l : List α} {k : Nat} {x : α} (h : l[k]? = some x) (hp : P x = false) (ha : (l.take k).any P = false) : (l.take (k + 1)).any P = false := by
  rw [take_at h, List.any_append, ha]; simp [hp]

set_option maxRecDepth 100000 in
set_option maxHeartbeats 4000000 in
theorem sshares_any (c : Option Addr) (kc : Nat) (Bs : List Bd) (q : Pd) (w : World) (hG : BndL w c Bs) (hA : ∀ b ∈ Bs, PodAt w b.p) (hQ : PodAt w q) (hl : Bs.length ≤ 1000000) (hq : q.prts.length ≤ 1000000) (hb : ∀ b ∈ Bs, b.p.prts.length ≤ 1000000) :
    Calls Try.prog 73 #[.slice c Bs.length kc, .agg (prow q).toArray] w fun e w' => e = .returned (.bool (shareQ Bs q.prts)) ∧ Below w.heap.size w w' := by
  obtain ⟨R, hR⟩ : ∃ R, shareQ Bs q.prts = R := ⟨_, rfl⟩
  rw [hR]
  obtain ⟨W, hW⟩ : ∃ W, W = w.alloc (.cells (prow q).toArray 47) := ⟨_, rfl⟩
  have HW := Lib.hid (show Below w.heap.size w W by rw [hW]; exact (Below.refl _ w).alloc (Nat.le_refl _) _)
  have HX := Lib.hid (show Box w.heap.size (prow q) W by rw [hW]; exact Box.new w (prow q) 47)
  obtain ⟨PP, hPP⟩ : ∃ PP, q.prts = PP := ⟨_, rfl⟩
  obtain ⟨pp, hpp⟩ : ∃ pp, PP.length = pp := ⟨_, rfl⟩
  obtain ⟨qa, hqa⟩ : ∃ a, q.pa = a := ⟨_, rfl⟩
  obtain ⟨qk, hqk⟩ : ∃ a, q.pk = a := ⟨_, rfl⟩
  have HD := Lib.hid (show ∀ V, Below W.heap.size W V → V.cell? ⟨w.heap.size, 10, none⟩ = some (.slice qa pp qk) from fun V hV => by
    rw [(HX.out.mono hV).cell 10, ← hpp, ← hPP, ← hqa, ← hqk]
    rfl)
  have HCn := Lib.hid (show ∀ (x : Int) V, Below W.heap.size W V → Calls Try.prog 96 #[.slice qa pp qk, .int .i64 x] V fun e w' => e = .returned (.bool (prtIn PP x)) ∧ Below V.heap.size V w' from fun x V hV => by
    rw [← hpp]
    have h9 := hQ.prts
    rw [hPP, hqa] at h9
    exact Lb.containsi_any qa qk PP x V ((h9.mono HW.out).mono hV) (by rw [← hPP]; exact hq))
  have HG := Lib.hid (hG.mono HW.out)
  have HA := Lib.hid (show ∀ b ∈ Bs, PrtL W b.p.pa b.p.prts from fun b hb => ((hA b hb).mono HW.out).prts)
  have Hlx := Lib.hid hb
  rw [hPP] at hR
  have HR := Lib.hid hR
  obtain ⟨n, hn⟩ : ∃ n, Bs.length = n := ⟨_, rfl⟩
  have HN := Lib.hid hn
  have hlt0 := HX.out.lt
  rw [hn] at hl ⊢
  clear hG hA hQ hq hb hR hn hPP hpp hqa hqk HX
  obtain ⟨nm, n0, n1, n2, n3, n4, la, lk, L, sa, sk, S, ta, tk, T, ba, bk, B, pa, pk, P, aa, ak, A, wd, da, dk, D, sw, rk, ow, dm, pn, lc⟩ := q
  replace hW : W = w.alloc (.cells #[.string nm, .int .i64 n0, .int .i64 n1, .int .i64 n2, .int .i64 n3, .int .i64 n4, .slice la L.length lk, .slice sa S.length sk, .slice ta T.length tk, .slice ba B.length bk, .slice pa P.length pk, .slice aa A.length ak, .bool wd, .slice da D.length dk, .int .i64 sw, .int .i64 rk, .string ow, .bool dm, .bool pn, .bool lc] 47) := hW
  show Calls Try.prog 73 #[.slice c n kc, .agg #[.string nm, .int .i64 n0, .int .i64 n1, .int .i64 n2, .int .i64 n3, .int .i64 n4, .slice la L.length lk, .slice sa S.length sk, .slice ta T.length tk, .slice ba B.length bk, .slice pa P.length pk, .slice aa A.length ak, .bool wd, .slice da D.length dk, .int .i64 sw, .int .i64 rk, .string ow, .bool dm, .bool pn, .bool lc]] w _
  go_enter Try.func73, Try.ntmps73
  go_upto_region 1 with (fail)
  rw [← hW]
  clear hW
  go_wp2
  go_loopw [11] (fun vi wr => ∃ k : Nat, k ≤ n ∧ vi = .int .i64 k ∧ (Bs.take k).any (prtsIn PP) = false ∧ Below W.heap.size W wr) (fun vi _ => n - (intOf vi).toNat)
  case atStart => exact ⟨0, Nat.zero_le _, rfl, rfl, Below.refl _ _⟩
  case round =>
    obtain ⟨k, hk, rfl, hE, hB⟩ := hrel
    have HE := Lib.hid hE
    have HB := Lib.hid hB
    have hbz := hB.size
    by_cases hlt : k < n
    · obtain ⟨bb, hm⟩ := mem_at (l := Bs) (k := k) (by rw [HN.out]; exact hlt)
      obtain ⟨b, o, rfl, hb, hc⟩ := (HG.out.mono hB) (by rw [HN.out]; omega)
      have HRg := Lib.hid (show wr.rangeAt b (o + k * 21) (brow bb) from fun j v hj => by rw [hc k bb hm j (by have := (List.getElem?_eq_some_iff.1 hj).1; exact this)]; exact hj)
      have Hm := Lib.hid hm
      have HPL := Lib.hid ((HA.out bb (List.mem_of_getElem? hm)).mono hB)
      have hpl := Hlx.out bb (List.mem_of_getElem? hm)
      have HYes := Lib.hid (fun (h : prtsIn PP bb = true) => show R = true by rw [← HR.out]; exact any_yes (P := prtsIn PP) Hm.out h)
      have HNo := Lib.hid (fun (h : prtsIn PP bb = false) => any_next (P := prtsIn PP) Hm.out h HE.out)
      obtain ⟨P2, hP2⟩ : ∃ P2, bb.p.prts = P2 := ⟨_, rfl⟩
      obtain ⟨p2, hp2⟩ : ∃ p2, P2.length = p2 := ⟨_, rfl⟩
      obtain ⟨ax, hax⟩ : ∃ a, bb.p.pa = a := ⟨_, rfl⟩
      obtain ⟨kx, hkx⟩ : ∃ a, bb.p.pk = a := ⟨_, rfl⟩
      have hb2 : prtsIn PP bb = P2.any (prtIn PP) := by unfold prtsIn; rw [hP2]
      rw [hb2] at HYes HNo
      rw [hP2, hax] at HPL
      rw [hP2, hp2] at hpl
      obtain ⟨rb, hrb⟩ : ∃ r, brow bb = r := ⟨_, rfl⟩
      have h10 : rb[10]? = some (.slice ax p2 kx) := by rw [← hrb, ← hp2, ← hP2, ← hax, ← hkx]; rfl
      have hlen : rb.length = 21 := by rw [← hrb]; rfl
      have hone : rb.all (·.oneCell') = true := by rw [← hrb]; exact List.all_eq_true.2 (brow_one bb)
      rw [hrb] at HRg
      have Hp2 := Lib.hid hp2
      clear hE hB hc hm hP2 hp2 hax hkx hb2 hrb
      obtain ⟨x0, x1, x2, x3, x4, x5, x6, x7, x8, x9, y0, y1, y2, y3, y4, y5, y6, y7, y8, y9, z0, rfl⟩ := list21 hlen
      obtain rfl : y0 = .slice ax p2 kx := by simpa using h10
      have HOne := Lib.hid hone
      clear hlen h10 hone
      go_wp2_with (first
        | ((with_reducible refine at_load (ty := 56) ?_); refine load_cells rfl 56 (.tmp 13) rfl b (o + k * 21) rfl [x0, x1, x2, x3, x4, x5, x6, x7, x8, x9, .slice ax p2 kx, y1, y2, y3, y4, y5, y6, y7, y8, y9, z0] _ Try.underlying56 rfl (by kernel_rfl) HRg.out ?_)
        | ((with_reducible refine at_store (ty := 56) ?_); refine store_new rfl 56 (.tmp 6) (.tmp 14) rfl _ _ rfl rfl (by kernel_rfl) rfl HOne.out rfl ?_))
      obtain ⟨V, hV⟩ : ∃ V, V = wr.alloc (.cells #[x0, x1, x2, x3, x4, x5, x6, x7, x8, x9, .slice ax p2 kx, y1, y2, y3, y4, y5, y6, y7, y8, y9, z0] 56) := ⟨_, rfl⟩
      have HV := Lib.hid (show Below W.heap.size W V by rw [hV]; exact HB.out.alloc HB.out.size _)
      have HRV := Lib.hid (show Below wr.heap.size wr V by rw [hV]; exact (Below.refl _ _).alloc (Nat.le_refl _) _)
      have HPV := Lib.hid (HPL.out.mono HRV.out)
      rw [← hV]
      clear hV HOne HRg HPL
      go_loopw [19] (fun vj wq => ∃ j : Nat, j ≤ p2 ∧ vj = .int .i64 j ∧ (P2.take j).any (prtIn PP) = false ∧ Below V.heap.size V wq) (fun vj _ => p2 - (intOf vj).toNat)
      case atStart => exact ⟨0, Nat.zero_le _, rfl, rfl, Below.refl _ _⟩
      case round =>
        obtain ⟨j, hj, rfl, hE, hB⟩ := hrel
        have HE := Lib.hid hE
        have HQ := Lib.hid hB
        have HWq := Lib.hid (HV.out.trans (hB.mono HV.out.size))
        have hcz := hB.size
        by_cases hlj : j < p2
        · obtain ⟨x, hx⟩ := mem_at (l := P2) (k := j) (by rw [Hp2.out]; exact hlj)
          obtain ⟨b2, o2, rfl, hb2, hc2⟩ := (HPV.out.mono hB) (by rw [Hp2.out]; omega)
          have c0 := hc2 j x hx 0 (by decide)
          dsimp only [pcs, List.getElem?_cons_zero] at c0
          rw [Nat.mul_one, Nat.add_zero] at c0
          have d10 := HD.out _ HWq.out
          have hwl : w.heap.size < wr.heap.size := Nat.lt_of_lt_of_le hlt0 (Nat.le_trans HV.out.size hcz)
          have Hx := Lib.hid hx
          have HCx := Lib.hid (HCn.out x _ HWq.out)
          obtain ⟨z, hz⟩ : ∃ z, prtIn PP x = z := ⟨_, rfl⟩
          have HZ := Lib.hid hz
          rw [hz] at HCx
          clear hE hB hc2 hx hz
          cases z with
          | true =>
            obtain rfl : R = true := HYes.out (any_yes (P := prtIn PP) Hx.out HZ.out)
            go_wp2_with (go_at_call 96; (with_reducible refine (HCx.out).mono ?_); rintro e w6 ⟨rfl, hb6⟩; have HB6 := Lib.hid (HWq.out.trans (hb6.mono HWq.out.size)); clear hb6)
            go_ret
            exact ⟨rfl, HW.out.trans (HB6.out.mono HW.out.size)⟩
          | false =>
            have HE2 := Lib.hid (any_next (P := prtIn PP) Hx.out HZ.out HE.out)
            go_wp2_with (go_at_call 96; (with_reducible refine (HCx.out).mono ?_); rintro e w6 ⟨rfl, hb6⟩; have HB6 := Lib.hid (HQ.out.trans (hb6.mono hcz)); clear hb6)
            go_roundw
            case rel => exact ⟨j + 1, by omega, by go_num, HE2.out, HB6.out⟩
            case measure => simp [intOf]; omega
        · obtain rfl : p2 = j := by omega
          have HE2 := Lib.hid (HNo.out (any_all (P := prtIn PP) Hp2.out HE.out))
          clear hE hB
          go_wp2
          go_roundw
          case rel => exact ⟨k + 1, by omega, by go_num, HE2.out, HWq.out⟩
          case measure => simp [intOf]; omega
    · obtain rfl : k = n := by omega
      obtain rfl : R = false := by rw [← HR.out]; exact any_all (P := prtsIn PP) HN.out HE.out
      go_wp2
      go_ret
      exact ⟨rfl, HW.out.trans (HB.out.mono HW.out.size)⟩
end Go.Proofs.Ythbpnfpalcgfeaa
