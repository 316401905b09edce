/-
  Suit: what known builds.
-/
import Derived.Test.YthbpnfpalcgfeaaSu4
namespace Go.Proofs.Ythbpnfpalcgfeaa
open Go.RowKit
set_option linter.unusedVariables false
set_option linter.unusedSimpArgs false

/-- Blocks that were made one after the other. -/
structure Blks (w V : World) (l : List (TypeId × List Value)) : Prop where
  sz : V.heap.size = w.heap.size + l.length
  bl : Below w.heap.size w V
  at' : ∀ i x, l[i]? = some x → Blk V (w.heap.size + i) x.1 x.2
theorem Blks.nil (w : World) : Blks w w [] := ⟨rfl, Below.refl _ _, fun i x h => by simp at h⟩
theorem Blks.push {w V : World} {l : List (TypeId × List Value)} (h : Blks w V l) (t : TypeId) (cs : List Value) : Blks w (V.alloc (.cells cs.toArray t)) (l ++ [(t, cs)]) := by
  refine ⟨by rw [World.size_alloc, h.sz, List.length_append]; rfl, h.bl.alloc h.bl.size _, fun i x hx => ?_⟩
  rw [List.getElem?_append] at hx
  split at hx
  · exact (h.at' i x hx).alloc _
  · rename_i hn
    have hi : i - l.length = 0 := by
      have := (List.getElem?_eq_some_iff.1 hx).1
      simp at this
      omega
    rw [hi] at hx
    obtain rfl : (t, cs) = x := by simpa using hx
    have h9 := Blk.new V t cs
    rw [h.sz, show l.length = i by omega] at h9
    exact h9
theorem Blks.mono {w V V' : World} {l : List (TypeId × List Value)} (h : Blks w V l) (hb : Below V.heap.size V V') : ∀ i x, l[i]? = some x → Blk V' (w.heap.size + i) x.1 x.2 := fun i x hx => (h.at' i x hx).below hb

theorem blk_range {V : World} {b : Nat} {t : TypeId} {cs : List Value} (h : Blk V b t cs) : V.rangeAt b 0 cs := fun j v hj => by rw [Nat.zero_add, h.cell]; exact hj
def pT (nm : ByteArray) (c : Int) (sa : Option Addr) (sk : Nat) (S : List Lab) (pa : Option Addr) (pk : Nat) (P : List Int) : Pd := ⟨nm, c, 0, 0, 1, 0, none, 0, [], sa, sk, S, none, 0, [], none, 0, [], pa, pk, P, none, 0, [], false, none, 0, [], 0, 0, emp, false, false, false⟩
theorem blk_rows {α : Type} {enc : α → List Value} {K : Nat} (hk : ∀ x, (enc x).length = K) {V : World} {b : Nat} {t : TypeId} {l : List α} (h : Blk V b t (l.flatMap enc)) : RowsAt enc K V (some ⟨b, 0, none⟩) l :=
  fun _ => ⟨b, 0, rfl, h.lt, fun i x hx r hr => by rw [Nat.zero_add, h.cell]; exact rows_get enc K hk l i r x hx hr⟩
def mT : Mac := ⟨⟨#[109]⟩, emp, 1000, 0, 0, 9, 0, none, 0, [], none, 0, [], true⟩
def mZ : Mac := ⟨emp, emp, 0, 0, 0, 0, 0, none, 0, [], none, 0, [], false⟩
def qT : Pd := pT ⟨#[113]⟩ 300 none 0 [] none 0 []
def rT (B : Nat) : Pd := pT ⟨#[114]⟩ 200 none 0 [] (some ⟨B + 4, 0, none⟩) 1 [80]
def sT : Pd := pT ⟨#[115]⟩ 200 none 0 [] none 0 []
def tT (B : Nat) : Pd := pT ⟨#[112]⟩ 1000 none 0 [] (some ⟨B + 7, 0, none⟩) 1 [80]
def uT (B : Nat) : Pd := pT ⟨#[115]⟩ 200 (some ⟨B + 10, 0, none⟩) 1 [⟨⟨#[97]⟩, ⟨#[98]⟩⟩] none 0 []
def bT (B : Nat) : Bd := ⟨pT ⟨#[112]⟩ 800 none 0 [] (some ⟨B + 1, 0, none⟩) 1 [80], ⟨#[109]⟩⟩
/-- What known has built. -/
structure K10 (w V : World) : Prop where
  m : Blk V w.heap.size 35 (mrow mT)
  p1 : PrtL V (some ⟨w.heap.size + 1, 0, none⟩) [80]
  bs : BndL V (some ⟨w.heap.size + 2, 0, none⟩) [bT w.heap.size]
  q : Blk V (w.heap.size + 3) 47 (prow qT)
  p4 : PrtL V (some ⟨w.heap.size + 4, 0, none⟩) [80]
  r : Blk V (w.heap.size + 5) 47 (prow (rT w.heap.size))
  s : Blk V (w.heap.size + 6) 47 (prow sT)
  p7 : PrtL V (some ⟨w.heap.size + 7, 0, none⟩) [80]
  t : Blk V (w.heap.size + 8) 47 (prow (tT w.heap.size))
  u : Blk V (w.heap.size + 9) 47 (prow (uT w.heap.size))
  lb : LabL V (some ⟨w.heap.size + 10, 0, none⟩) [⟨⟨#[97]⟩, ⟨#[98]⟩⟩]
  bl : Below w.heap.size w V
theorem K10.mono {w V V' : World} (h : K10 w V) (hb : Below V.heap.size V V') : K10 w V' :=
  ⟨h.m.below hb, h.p1.mono hb, h.bs.mono hb, h.q.below hb, h.p4.mono hb, h.r.below hb, h.s.below hb, h.p7.mono hb, h.t.below hb, h.u.below hb, h.lb.mono hb, h.bl.trans (hb.mono h.bl.size)⟩
theorem pT_at {V : World} {nm : ByteArray} {c : Int} {sa : Option Addr} {sk : Nat} {S : List Lab} {pa : Option Addr} {pk : Nat} {P : List Int} (h1 : LabL V sa S) (h2 : PrtL V pa P) (h3 : S.length ≤ maxLen) (h4 : P.length ≤ maxLen) : PodAt V (pT nm c sa sk S pa pk P) :=
  ⟨RowsAt.nil, h1, RowsAt.nil, (fun t ht => by cases ht), RowsAt.nil, h2, RowsAt.nil, RowsAt.nil, Nat.zero_le _, h3, Nat.zero_le _, Nat.zero_le _, h4, Nat.zero_le _, Nat.zero_le _⟩
theorem mT_at (V : World) : MacAt V mT := ⟨RowsAt.nil, RowsAt.nil, Nat.zero_le _, Nat.zero_le _⟩
theorem mZ_at (V : World) : MacAt V mZ := ⟨RowsAt.nil, RowsAt.nil, Nat.zero_le _, Nat.zero_le _⟩
theorem one_le : 1 ≤ maxLen := by unfold maxLen; decide
theorem K10.qa {w V : World} (h : K10 w V) : PodAt V qT := pT_at RowsAt.nil RowsAt.nil (Nat.zero_le _) (Nat.zero_le _)
theorem K10.ra {w V : World} (h : K10 w V) : PodAt V (rT w.heap.size) := pT_at RowsAt.nil h.p4 (Nat.zero_le _) one_le
theorem K10.sa {w V : World} (h : K10 w V) : PodAt V sT := pT_at RowsAt.nil RowsAt.nil (Nat.zero_le _) (Nat.zero_le _)
theorem K10.ta {w V : World} (h : K10 w V) : PodAt V (tT w.heap.size) := pT_at RowsAt.nil h.p7 (Nat.zero_le _) one_le
theorem K10.ua {w V : World} (h : K10 w V) : PodAt V (uT w.heap.size) := pT_at h.lb RowsAt.nil one_le (Nat.zero_le _)
theorem K10.ba {w V : World} (h : K10 w V) : ∀ b ∈ [bT w.heap.size], PodAt V b.p := fun b hb => by
  obtain rfl : b = bT w.heap.size := by simpa using hb
  exact pT_at RowsAt.nil h.p1 (Nat.zero_le _) one_le
theorem bT_prts (B : Nat) : ∀ b ∈ [bT B], b.p.prts.length ≤ 1000000 := fun b hb => by
  obtain rfl : b = bT B := by simpa using hb
  show 1 ≤ 1000000
  decide
set_option maxRecDepth 100000 in
theorem t_room1 (B : Nat) : roomS mT [bT B] qT = 2 := by kernel_rfl
set_option maxRecDepth 100000 in
theorem t_room2 (B : Nat) : roomS mT [bT B] (rT B) = 3 := by kernel_rfl
set_option maxRecDepth 100000 in
theorem t_suit1 (B : Nat) : suitS mT [bT B] sT = 0 := by kernel_rfl
set_option maxRecDepth 100000 in
theorem t_suit2 (B : Nat) : suitS mT [bT B] (tT B) = 0 := by kernel_rfl
set_option maxRecDepth 100000 in
theorem t_place : placeS mZ sT = 1 := by kernel_rfl
set_option maxRecDepth 100000 in
theorem t_suit3 (B : Nat) : suitS mT [bT B] (uT B) = 4 := by kernel_rfl
set_option maxRecDepth 100000 in
theorem t_pref : prefS mT sT = 0 := by kernel_rfl
set_option maxRecDepth 100000 in
theorem t_lightm : lightM mT = true ∧ lightM mZ = true := ⟨by kernel_rfl, by kernel_rfl⟩
set_option maxRecDepth 100000 in
theorem t_lightp (B : Nat) : lightP sT = true ∧ lightP (tT B) = true ∧ lightP (uT B) = true := ⟨by kernel_rfl, by kernel_rfl, by kernel_rfl⟩
theorem ta_room1 {w V : World} (h : K10 w V) : Calls Try.prog 33 #[.agg (mrow mT).toArray, .slice (some ⟨w.heap.size + 2, 0, none⟩) 1 1, .agg (prow qT).toArray] V fun e w' => e = .returned (.int .i64 2) ∧ Below V.heap.size V w' := by
  have h9 := sroom_any mT _ 1 [bT w.heap.size] qT V (mT_at V) h.bs h.ba h.qa (by show 1 ≤ 1000000; decide) (by show 0 ≤ 1000000; decide) (bT_prts _)
  rw [t_room1] at h9
  exact h9
theorem ta_room2 {w V : World} (h : K10 w V) : Calls Try.prog 33 #[.agg (mrow mT).toArray, .slice (some ⟨w.heap.size + 2, 0, none⟩) 1 1, .agg (prow (rT w.heap.size)).toArray] V fun e w' => e = .returned (.int .i64 3) ∧ Below V.heap.size V w' := by
  have h9 := sroom_any mT _ 1 [bT w.heap.size] (rT w.heap.size) V (mT_at V) h.bs h.ba h.ra (by show 1 ≤ 1000000; decide) (by show 1 ≤ 1000000; decide) (bT_prts _)
  rw [t_room2] at h9
  exact h9
theorem ta_suit1 {w V : World} (h : K10 w V) : Calls Try.prog 26 #[.agg (mrow mT).toArray, .slice (some ⟨w.heap.size + 2, 0, none⟩) 1 1, .agg (prow sT).toArray] V fun e w' => e = .returned (.int .i64 0) ∧ Below V.heap.size V w' := by
  have h9 := ssuits_any mT _ 1 [bT w.heap.size] sT V (mT_at V) h.bs h.ba h.sa t_lightm.1 (t_lightp 0).1 (by show 1 ≤ 1000000; decide) (bT_prts _)
  rw [t_suit1] at h9
  exact h9
theorem ta_suit2 {w V : World} (h : K10 w V) : Calls Try.prog 26 #[.agg (mrow mT).toArray, .slice (some ⟨w.heap.size + 2, 0, none⟩) 1 1, .agg (prow (tT w.heap.size)).toArray] V fun e w' => e = .returned (.int .i64 0) ∧ Below V.heap.size V w' := by
  have h9 := ssuits_any mT _ 1 [bT w.heap.size] (tT w.heap.size) V (mT_at V) h.bs h.ba h.ta t_lightm.1 (t_lightp _).2.1 (by show 1 ≤ 1000000; decide) (bT_prts _)
  rw [t_suit2] at h9
  exact h9
theorem ta_place {w V : World} (h : K10 w V) : Calls Try.prog 31 #[.agg #[.string ⟨#[]⟩, .string ⟨#[]⟩, .int .i64 0, .int .i64 0, .int .i64 0, .int .i64 0, .int .i64 0, .slice none 0 0, .slice none 0 0, .bool false], .agg (prow sT).toArray] V fun e w' => e = .returned (.int .i64 1) ∧ Below V.heap.size V w' := by
  have h9 := splace_any mZ sT V (mZ_at V) h.sa t_lightm.2 (t_lightp 0).1
  rw [t_place] at h9
  exact h9
theorem ta_suit3 {w V : World} (h : K10 w V) : Calls Try.prog 26 #[.agg (mrow mT).toArray, .slice (some ⟨w.heap.size + 2, 0, none⟩) 1 1, .agg (prow (uT w.heap.size)).toArray] V fun e w' => e = .returned (.int .i64 4) ∧ Below V.heap.size V w' := by
  have h9 := ssuits_any mT _ 1 [bT w.heap.size] (uT w.heap.size) V (mT_at V) h.bs h.ba h.ua t_lightm.1 (t_lightp _).2.2 (by show 1 ≤ 1000000; decide) (bT_prts _)
  rw [t_suit3] at h9
  exact h9
theorem ta_pref {w V : World} (h : K10 w V) : Calls Try.prog 32 #[.agg (mrow mT).toArray, .agg (prow sT).toArray] V fun e w' => e = .returned (.int .i64 0) ∧ Below V.heap.size V w' := by
  have h9 := sprefers_any mT sT V (mT_at V) h.sa t_lightm.1 (t_lightp 0).1
  rw [t_pref] at h9
  exact h9
set_option maxRecDepth 100000 in
set_option maxHeartbeats 8000000 in
theorem sknown_any (w : World) :
    Calls Try.prog 25 #[] w fun e w' => e = .returned (.bool true) ∧ Below w.heap.size w w' := by
  have HK0 := Lib.hid (Blks.nil w)
  go_enter Try.func25, Try.ntmps25
  go_upto_region 2 with ((with_reducible refine at_store (ty := 35) ?_); refine store_new rfl 35 (.tmp 1) (.tmp 9) rfl _ _ rfl rfl (by kernel_rfl) rfl (by rfl) rfl ?_)
  obtain ⟨W1, hW1⟩ : ∃ V, V = (w.alloc (.cells #[.string ⟨#[109]⟩, .string ⟨#[]⟩, .int .i64 1000, .int .i64 0, .int .i64 0, .int .i64 9, .int .i64 0, .slice none 0 0, .slice none 0 0, .bool true] 35)) := ⟨_, rfl⟩
  have HK1 := Lib.hid (show Blks w W1 [(35, [.string ⟨#[109]⟩, .string ⟨#[]⟩, .int .i64 1000, .int .i64 0, .int .i64 0, .int .i64 9, .int .i64 0, .slice none 0 0, .slice none 0 0, .bool true])] by rw [hW1]; exact (HK0.out.push 35 [.string ⟨#[109]⟩, .string ⟨#[]⟩, .int .i64 1000, .int .i64 0, .int .i64 0, .int .i64 9, .int .i64 0, .slice none 0 0, .slice none 0 0, .bool true]))
  have Hs1 := Lib.hid (show W1.heap.size = w.heap.size + 1 from HK1.out.sz)
  rw [← hW1]
  clear hW1 HK0
  go_upto_region 3 with (fail)
  (try simp only [Hs1.out])
  obtain ⟨W2, hW2⟩ : ∃ V, V = ((W1.alloc (.cells #[.int .i64 80] 3)).alloc (.cells #[.string ⟨#[112]⟩, .int .i64 800, .int .i64 0, .int .i64 0, .int .i64 1, .int .i64 0, .slice none 0 0, .slice none 0 0, .slice none 0 0, .slice none 0 0, .slice (some ⟨w.heap.size + 1, 0, none⟩) 1 1, .slice none 0 0, .bool false, .slice none 0 0, .int .i64 0, .int .i64 0, .string ⟨#[]⟩, .bool false, .bool false, .bool false, .string ⟨#[109]⟩] 56)) := ⟨_, rfl⟩
  have HK2 := Lib.hid (show Blks w W2 [(35, [.string ⟨#[109]⟩, .string ⟨#[]⟩, .int .i64 1000, .int .i64 0, .int .i64 0, .int .i64 9, .int .i64 0, .slice none 0 0, .slice none 0 0, .bool true]), (3, [.int .i64 80]), (56, [.string ⟨#[112]⟩, .int .i64 800, .int .i64 0, .int .i64 0, .int .i64 1, .int .i64 0, .slice none 0 0, .slice none 0 0, .slice none 0 0, .slice none 0 0, .slice (some ⟨w.heap.size + 1, 0, none⟩) 1 1, .slice none 0 0, .bool false, .slice none 0 0, .int .i64 0, .int .i64 0, .string ⟨#[]⟩, .bool false, .bool false, .bool false, .string ⟨#[109]⟩])] by rw [hW2]; exact ((HK1.out.push 3 [.int .i64 80]).push 56 [.string ⟨#[112]⟩, .int .i64 800, .int .i64 0, .int .i64 0, .int .i64 1, .int .i64 0, .slice none 0 0, .slice none 0 0, .slice none 0 0, .slice none 0 0, .slice (some ⟨w.heap.size + 1, 0, none⟩) 1 1, .slice none 0 0, .bool false, .slice none 0 0, .int .i64 0, .int .i64 0, .string ⟨#[]⟩, .bool false, .bool false, .bool false, .string ⟨#[109]⟩]))
  have Hs2 := Lib.hid (show W2.heap.size = w.heap.size + 3 from HK2.out.sz)
  rw [← hW2]
  clear hW2 HK1
  go_upto_region 4 with ((with_reducible refine at_store (ty := 47) ?_); refine store_new rfl 47 (.tmp 3) (.tmp 16) rfl _ _ rfl rfl (by kernel_rfl) rfl (List.all_eq_true.2 (prow_one (pT ⟨#[113]⟩ 300 none 0 [] none 0 []))) rfl ?_)
  (try simp only [Hs2.out])
  obtain ⟨W3, hW3⟩ : ∃ V, V = (W2.alloc (.cells #[.string ⟨#[113]⟩, .int .i64 300, .int .i64 0, .int .i64 0, .int .i64 1, .int .i64 0, .slice none 0 0, .slice none 0 0, .slice none 0 0, .slice none 0 0, .slice none 0 0, .slice none 0 0, .bool false, .slice none 0 0, .int .i64 0, .int .i64 0, .string ⟨#[]⟩, .bool false, .bool false, .bool false] 47)) := ⟨_, rfl⟩
  have HK3 := Lib.hid (show Blks w W3 [(35, [.string ⟨#[109]⟩, .string ⟨#[]⟩, .int .i64 1000, .int .i64 0, .int .i64 0, .int .i64 9, .int .i64 0, .slice none 0 0, .slice none 0 0, .bool true]), (3, [.int .i64 80]), (56, [.string ⟨#[112]⟩, .int .i64 800, .int .i64 0, .int .i64 0, .int .i64 1, .int .i64 0, .slice none 0 0, .slice none 0 0, .slice none 0 0, .slice none 0 0, .slice (some ⟨w.heap.size + 1, 0, none⟩) 1 1, .slice none 0 0, .bool false, .slice none 0 0, .int .i64 0, .int .i64 0, .string ⟨#[]⟩, .bool false, .bool false, .bool false, .string ⟨#[109]⟩]), (47, [.string ⟨#[113]⟩, .int .i64 300, .int .i64 0, .int .i64 0, .int .i64 1, .int .i64 0, .slice none 0 0, .slice none 0 0, .slice none 0 0, .slice none 0 0, .slice none 0 0, .slice none 0 0, .bool false, .slice none 0 0, .int .i64 0, .int .i64 0, .string ⟨#[]⟩, .bool false, .bool false, .bool false])] by rw [hW3]; exact (HK2.out.push 47 [.string ⟨#[113]⟩, .int .i64 300, .int .i64 0, .int .i64 0, .int .i64 1, .int .i64 0, .slice none 0 0, .slice none 0 0, .slice none 0 0, .slice none 0 0, .slice none 0 0, .slice none 0 0, .bool false, .slice none 0 0, .int .i64 0, .int .i64 0, .string ⟨#[]⟩, .bool false, .bool false, .bool false]))
  have Hs3 := Lib.hid (show W3.heap.size = w.heap.size + 4 from HK3.out.sz)
  rw [← hW3]
  clear hW3 HK2
  go_upto_region 5 with ((with_reducible refine at_store (ty := 47) ?_); refine store_new rfl 47 (.tmp 4) (.tmp 19) rfl _ _ (by show Value.pointer (some ⟨W3.heap.size + 1, 0, none⟩) = Value.pointer (some ⟨(W3.alloc _).heap.size, 0, none⟩); rw [World.size_alloc]) rfl (by kernel_rfl) rfl (List.all_eq_true.2 (prow_one (pT ⟨#[114]⟩ 200 none 0 [] (some ⟨W3.heap.size, 0, none⟩) 1 [80]))) rfl ?_)
  (try simp only [Hs3.out])
  obtain ⟨W4, hW4⟩ : ∃ V, V = ((W3.alloc (.cells #[.int .i64 80] 3)).alloc (.cells #[.string ⟨#[114]⟩, .int .i64 200, .int .i64 0, .int .i64 0, .int .i64 1, .int .i64 0, .slice none 0 0, .slice none 0 0, .slice none 0 0, .slice none 0 0, .slice (some ⟨w.heap.size + 4, 0, none⟩) 1 1, .slice none 0 0, .bool false, .slice none 0 0, .int .i64 0, .int .i64 0, .string ⟨#[]⟩, .bool false, .bool false, .bool false] 47)) := ⟨_, rfl⟩
  have HK4 := Lib.hid (show Blks w W4 [(35, [.string ⟨#[109]⟩, .string ⟨#[]⟩, .int .i64 1000, .int .i64 0, .int .i64 0, .int .i64 9, .int .i64 0, .slice none 0 0, .slice none 0 0, .bool true]), (3, [.int .i64 80]), (56, [.string ⟨#[112]⟩, .int .i64 800, .int .i64 0, .int .i64 0, .int .i64 1, .int .i64 0, .slice none 0 0, .slice none 0 0, .slice none 0 0, .slice none 0 0, .slice (some ⟨w.heap.size + 1, 0, none⟩) 1 1, .slice none 0 0, .bool false, .slice none 0 0, .int .i64 0, .int .i64 0, .string ⟨#[]⟩, .bool false, .bool false, .bool false, .string ⟨#[109]⟩]), (47, [.string ⟨#[113]⟩, .int .i64 300, .int .i64 0, .int .i64 0, .int .i64 1, .int .i64 0, .slice none 0 0, .slice none 0 0, .slice none 0 0, .slice none 0 0, .slice none 0 0, .slice none 0 0, .bool false, .slice none 0 0, .int .i64 0, .int .i64 0, .string ⟨#[]⟩, .bool false, .bool false, .bool false]), (3, [.int .i64 80]), (47, [.string ⟨#[114]⟩, .int .i64 200, .int .i64 0, .int .i64 0, .int .i64 1, .int .i64 0, .slice none 0 0, .slice none 0 0, .slice none 0 0, .slice none 0 0, .slice (some ⟨w.heap.size + 4, 0, none⟩) 1 1, .slice none 0 0, .bool false, .slice none 0 0, .int .i64 0, .int .i64 0, .string ⟨#[]⟩, .bool false, .bool false, .bool false])] by rw [hW4]; exact ((HK3.out.push 3 [.int .i64 80]).push 47 [.string ⟨#[114]⟩, .int .i64 200, .int .i64 0, .int .i64 0, .int .i64 1, .int .i64 0, .slice none 0 0, .slice none 0 0, .slice none 0 0, .slice none 0 0, .slice (some ⟨w.heap.size + 4, 0, none⟩) 1 1, .slice none 0 0, .bool false, .slice none 0 0, .int .i64 0, .int .i64 0, .string ⟨#[]⟩, .bool false, .bool false, .bool false]))
  have Hs4 := Lib.hid (show W4.heap.size = w.heap.size + 6 from HK4.out.sz)
  rw [← hW4]
  clear hW4 HK3
  go_upto_region 6 with ((with_reducible refine at_store (ty := 47) ?_); refine store_new rfl 47 (.tmp 5) (.tmp 21) rfl _ _ rfl rfl (by kernel_rfl) rfl (List.all_eq_true.2 (prow_one (pT ⟨#[115]⟩ 200 none 0 [] none 0 []))) rfl ?_)
  (try simp only [Hs4.out])
  obtain ⟨W5, hW5⟩ : ∃ V, V = (W4.alloc (.cells #[.string ⟨#[115]⟩, .int .i64 200, .int .i64 0, .int .i64 0, .int .i64 1, .int .i64 0, .slice none 0 0, .slice none 0 0, .slice none 0 0, .slice none 0 0, .slice none 0 0, .slice none 0 0, .bool false, .slice none 0 0, .int .i64 0, .int .i64 0, .string ⟨#[]⟩, .bool false, .bool false, .bool false] 47)) := ⟨_, rfl⟩
  have HK5 := Lib.hid (show Blks w W5 [(35, [.string ⟨#[109]⟩, .string ⟨#[]⟩, .int .i64 1000, .int .i64 0, .int .i64 0, .int .i64 9, .int .i64 0, .slice none 0 0, .slice none 0 0, .bool true]), (3, [.int .i64 80]), (56, [.string ⟨#[112]⟩, .int .i64 800, .int .i64 0, .int .i64 0, .int .i64 1, .int .i64 0, .slice none 0 0, .slice none 0 0, .slice none 0 0, .slice none 0 0, .slice (some ⟨w.heap.size + 1, 0, none⟩) 1 1, .slice none 0 0, .bool false, .slice none 0 0, .int .i64 0, .int .i64 0, .string ⟨#[]⟩, .bool false, .bool false, .bool false, .string ⟨#[109]⟩]), (47, [.string ⟨#[113]⟩, .int .i64 300, .int .i64 0, .int .i64 0, .int .i64 1, .int .i64 0, .slice none 0 0, .slice none 0 0, .slice none 0 0, .slice none 0 0, .slice none 0 0, .slice none 0 0, .bool false, .slice none 0 0, .int .i64 0, .int .i64 0, .string ⟨#[]⟩, .bool false, .bool false, .bool false]), (3, [.int .i64 80]), (47, [.string ⟨#[114]⟩, .int .i64 200, .int .i64 0, .int .i64 0, .int .i64 1, .int .i64 0, .slice none 0 0, .slice none 0 0, .slice none 0 0, .slice none 0 0, .slice (some ⟨w.heap.size + 4, 0, none⟩) 1 1, .slice none 0 0, .bool false, .slice none 0 0, .int .i64 0, .int .i64 0, .string ⟨#[]⟩, .bool false, .bool false, .bool false]), (47, [.string ⟨#[115]⟩, .int .i64 200, .int .i64 0, .int .i64 0, .int .i64 1, .int .i64 0, .slice none 0 0, .slice none 0 0, .slice none 0 0, .slice none 0 0, .slice none 0 0, .slice none 0 0, .bool false, .slice none 0 0, .int .i64 0, .int .i64 0, .string ⟨#[]⟩, .bool false, .bool false, .bool false])] by rw [hW5]; exact (HK4.out.push 47 [.string ⟨#[115]⟩, .int .i64 200, .int .i64 0, .int .i64 0, .int .i64 1, .int .i64 0, .slice none 0 0, .slice none 0 0, .slice none 0 0, .slice none 0 0, .slice none 0 0, .slice none 0 0, .bool false, .slice none 0 0, .int .i64 0, .int .i64 0, .string ⟨#[]⟩, .bool false, .bool false, .bool false]))
  have Hs5 := Lib.hid (show W5.heap.size = w.heap.size + 7 from HK5.out.sz)
  rw [← hW5]
  clear hW5 HK4
  go_upto_region 7 with ((with_reducible refine at_store (ty := 47) ?_); refine store_new rfl 47 (.tmp 6) (.tmp 24) rfl _ _ (by show Value.pointer (some ⟨W5.heap.size + 1, 0, none⟩) = Value.pointer (some ⟨(W5.alloc _).heap.size, 0, none⟩); rw [World.size_alloc]) rfl (by kernel_rfl) rfl (List.all_eq_true.2 (prow_one (pT ⟨#[112]⟩ 1000 none 0 [] (some ⟨W5.heap.size, 0, none⟩) 1 [80]))) rfl ?_)
  (try simp only [Hs5.out])
  obtain ⟨W6, hW6⟩ : ∃ V, V = ((W5.alloc (.cells #[.int .i64 80] 3)).alloc (.cells #[.string ⟨#[112]⟩, .int .i64 1000, .int .i64 0, .int .i64 0, .int .i64 1, .int .i64 0, .slice none 0 0, .slice none 0 0, .slice none 0 0, .slice none 0 0, .slice (some ⟨w.heap.size + 7, 0, none⟩) 1 1, .slice none 0 0, .bool false, .slice none 0 0, .int .i64 0, .int .i64 0, .string ⟨#[]⟩, .bool false, .bool false, .bool false] 47)) := ⟨_, rfl⟩
  have HK6 := Lib.hid (show Blks w W6 [(35, [.string ⟨#[109]⟩, .string ⟨#[]⟩, .int .i64 1000, .int .i64 0, .int .i64 0, .int .i64 9, .int .i64 0, .slice none 0 0, .slice none 0 0, .bool true]), (3, [.int .i64 80]), (56, [.string ⟨#[112]⟩, .int .i64 800, .int .i64 0, .int .i64 0, .int .i64 1, .int .i64 0, .slice none 0 0, .slice none 0 0, .slice none 0 0, .slice none 0 0, .slice (some ⟨w.heap.size + 1, 0, none⟩) 1 1, .slice none 0 0, .bool false, .slice none 0 0, .int .i64 0, .int .i64 0, .string ⟨#[]⟩, .bool false, .bool false, .bool false, .string ⟨#[109]⟩]), (47, [.string ⟨#[113]⟩, .int .i64 300, .int .i64 0, .int .i64 0, .int .i64 1, .int .i64 0, .slice none 0 0, .slice none 0 0, .slice none 0 0, .slice none 0 0, .slice none 0 0, .slice none 0 0, .bool false, .slice none 0 0, .int .i64 0, .int .i64 0, .string ⟨#[]⟩, .bool false, .bool false, .bool false]), (3, [.int .i64 80]), (47, [.string ⟨#[114]⟩, .int .i64 200, .int .i64 0, .int .i64 0, .int .i64 1, .int .i64 0, .slice none 0 0, .slice none 0 0, .slice none 0 0, .slice none 0 0, .slice (some ⟨w.heap.size + 4, 0, none⟩) 1 1, .slice none 0 0, .bool false, .slice none 0 0, .int .i64 0, .int .i64 0, .string ⟨#[]⟩, .bool false, .bool false, .bool false]), (47, [.string ⟨#[115]⟩, .int .i64 200, .int .i64 0, .int .i64 0, .int .i64 1, .int .i64 0, .slice none 0 0, .slice none 0 0, .slice none 0 0, .slice none 0 0, .slice none 0 0, .slice none 0 0, .bool false, .slice none 0 0, .int .i64 0, .int .i64 0, .string ⟨#[]⟩, .bool false, .bool false, .bool false]), (3, [.int .i64 80]), (47, [.string ⟨#[112]⟩, .int .i64 1000, .int .i64 0, .int .i64 0, .int .i64 1, .int .i64 0, .slice none 0 0, .slice none 0 0, .slice none 0 0, .slice none 0 0, .slice (some ⟨w.heap.size + 7, 0, none⟩) 1 1, .slice none 0 0, .bool false, .slice none 0 0, .int .i64 0, .int .i64 0, .string ⟨#[]⟩, .bool false, .bool false, .bool false])] by rw [hW6]; exact ((HK5.out.push 3 [.int .i64 80]).push 47 [.string ⟨#[112]⟩, .int .i64 1000, .int .i64 0, .int .i64 0, .int .i64 1, .int .i64 0, .slice none 0 0, .slice none 0 0, .slice none 0 0, .slice none 0 0, .slice (some ⟨w.heap.size + 7, 0, none⟩) 1 1, .slice none 0 0, .bool false, .slice none 0 0, .int .i64 0, .int .i64 0, .string ⟨#[]⟩, .bool false, .bool false, .bool false]))
  have Hs6 := Lib.hid (show W6.heap.size = w.heap.size + 9 from HK6.out.sz)
  rw [← hW6]
  clear hW6 HK5
  go_upto_region 8 with (first | ((with_reducible refine at_load (ty := 47) ?_); refine load_cells rfl 47 (.tmp 5) rfl (w.heap.size + 6) 0 rfl [.string ⟨#[115]⟩, .int .i64 200, .int .i64 0, .int .i64 0, .int .i64 1, .int .i64 0, .slice none 0 0, .slice none 0 0, .slice none 0 0, .slice none 0 0, .slice none 0 0, .slice none 0 0, .bool false, .slice none 0 0, .int .i64 0, .int .i64 0, .string ⟨#[]⟩, .bool false, .bool false, .bool false] _ Try.underlying47 rfl (by kernel_rfl) (blk_range (HK6.out.at' 6 _ rfl)) ?_) | ((with_reducible refine at_store (ty := 47) ?_); refine store_new rfl 47 (.tmp 7) (.tmp 25) rfl _ _ rfl rfl (by kernel_rfl) rfl (List.all_eq_true.2 (prow_one (pT ⟨#[115]⟩ 200 none 0 [] none 0 []))) rfl ?_))
  (try simp only [Hs6.out])
  obtain ⟨W7, hW7⟩ : ∃ V, V = (W6.alloc (.cells #[.string ⟨#[115]⟩, .int .i64 200, .int .i64 0, .int .i64 0, .int .i64 1, .int .i64 0, .slice none 0 0, .slice none 0 0, .slice none 0 0, .slice none 0 0, .slice none 0 0, .slice none 0 0, .bool false, .slice none 0 0, .int .i64 0, .int .i64 0, .string ⟨#[]⟩, .bool false, .bool false, .bool false] 47)) := ⟨_, rfl⟩
  have HK7 := Lib.hid (show Blks w W7 [(35, [.string ⟨#[109]⟩, .string ⟨#[]⟩, .int .i64 1000, .int .i64 0, .int .i64 0, .int .i64 9, .int .i64 0, .slice none 0 0, .slice none 0 0, .bool true]), (3, [.int .i64 80]), (56, [.string ⟨#[112]⟩, .int .i64 800, .int .i64 0, .int .i64 0, .int .i64 1, .int .i64 0, .slice none 0 0, .slice none 0 0, .slice none 0 0, .slice none 0 0, .slice (some ⟨w.heap.size + 1, 0, none⟩) 1 1, .slice none 0 0, .bool false, .slice none 0 0, .int .i64 0, .int .i64 0, .string ⟨#[]⟩, .bool false, .bool false, .bool false, .string ⟨#[109]⟩]), (47, [.string ⟨#[113]⟩, .int .i64 300, .int .i64 0, .int .i64 0, .int .i64 1, .int .i64 0, .slice none 0 0, .slice none 0 0, .slice none 0 0, .slice none 0 0, .slice none 0 0, .slice none 0 0, .bool false, .slice none 0 0, .int .i64 0, .int .i64 0, .string ⟨#[]⟩, .bool false, .bool false, .bool false]), (3, [.int .i64 80]), (47, [.string ⟨#[114]⟩, .int .i64 200, .int .i64 0, .int .i64 0, .int .i64 1, .int .i64 0, .slice none 0 0, .slice none 0 0, .slice none 0 0, .slice none 0 0, .slice (some ⟨w.heap.size + 4, 0, none⟩) 1 1, .slice none 0 0, .bool false, .slice none 0 0, .int .i64 0, .int .i64 0, .string ⟨#[]⟩, .bool false, .bool false, .bool false]), (47, [.string ⟨#[115]⟩, .int .i64 200, .int .i64 0, .int .i64 0, .int .i64 1, .int .i64 0, .slice none 0 0, .slice none 0 0, .slice none 0 0, .slice none 0 0, .slice none 0 0, .slice none 0 0, .bool false, .slice none 0 0, .int .i64 0, .int .i64 0, .string ⟨#[]⟩, .bool false, .bool false, .bool false]), (3, [.int .i64 80]), (47, [.string ⟨#[112]⟩, .int .i64 1000, .int .i64 0, .int .i64 0, .int .i64 1, .int .i64 0, .slice none 0 0, .slice none 0 0, .slice none 0 0, .slice none 0 0, .slice (some ⟨w.heap.size + 7, 0, none⟩) 1 1, .slice none 0 0, .bool false, .slice none 0 0, .int .i64 0, .int .i64 0, .string ⟨#[]⟩, .bool false, .bool false, .bool false]), (47, [.string ⟨#[115]⟩, .int .i64 200, .int .i64 0, .int .i64 0, .int .i64 1, .int .i64 0, .slice none 0 0, .slice none 0 0, .slice none 0 0, .slice none 0 0, .slice none 0 0, .slice none 0 0, .bool false, .slice none 0 0, .int .i64 0, .int .i64 0, .string ⟨#[]⟩, .bool false, .bool false, .bool false])] by rw [hW7]; exact (HK6.out.push 47 [.string ⟨#[115]⟩, .int .i64 200, .int .i64 0, .int .i64 0, .int .i64 1, .int .i64 0, .slice none 0 0, .slice none 0 0, .slice none 0 0, .slice none 0 0, .slice none 0 0, .slice none 0 0, .bool false, .slice none 0 0, .int .i64 0, .int .i64 0, .string ⟨#[]⟩, .bool false, .bool false, .bool false]))
  have Hs7 := Lib.hid (show W7.heap.size = w.heap.size + 10 from HK7.out.sz)
  rw [← hW7]
  clear hW7 HK6
  have y7 := (HK7.out.at' 9 _ rfl).cell 7
  have f7 := (HK7.out.at' 9 _ rfl).frozen 7
  have hs7 := Hs7.out
  dsimp only [List.getElem?_cons_zero, List.getElem?_cons_succ] at y7
  go_upto_region 9 with (fail)
  simp only [show w.heap.size + 1 + 1 = w.heap.size + 2 from rfl, show w.heap.size + 4 + 1 = w.heap.size + 5 from rfl, show w.heap.size + 7 + 1 = w.heap.size + 8 from rfl]
  obtain ⟨W8, hW8⟩ : ∃ V, V = W7.setCell ⟨w.heap.size + 9, 7, none⟩ (.slice (some ⟨w.heap.size + 10, 0, none⟩) 1 1) := ⟨_, rfl⟩
  have hz8 : W8.heap.size = w.heap.size + 10 := by rw [hW8]; simp; exact hs7
  obtain ⟨V, hV⟩ : ∃ V, V = W8.alloc (.cells #[.string ⟨#[97]⟩, .string ⟨#[98]⟩] 71) := ⟨_, rfl⟩
  have hot : ∀ i x, i ≠ 9 → ([(35, [.string ⟨#[109]⟩, .string ⟨#[]⟩, .int .i64 1000, .int .i64 0, .int .i64 0, .int .i64 9, .int .i64 0, .slice none 0 0, .slice none 0 0, .bool true]), (3, [.int .i64 80]), (56, [.string ⟨#[112]⟩, .int .i64 800, .int .i64 0, .int .i64 0, .int .i64 1, .int .i64 0, .slice none 0 0, .slice none 0 0, .slice none 0 0, .slice none 0 0, .slice (some ⟨w.heap.size + 1, 0, none⟩) 1 1, .slice none 0 0, .bool false, .slice none 0 0, .int .i64 0, .int .i64 0, .string ⟨#[]⟩, .bool false, .bool false, .bool false, .string ⟨#[109]⟩]), (47, [.string ⟨#[113]⟩, .int .i64 300, .int .i64 0, .int .i64 0, .int .i64 1, .int .i64 0, .slice none 0 0, .slice none 0 0, .slice none 0 0, .slice none 0 0, .slice none 0 0, .slice none 0 0, .bool false, .slice none 0 0, .int .i64 0, .int .i64 0, .string ⟨#[]⟩, .bool false, .bool false, .bool false]), (3, [.int .i64 80]), (47, [.string ⟨#[114]⟩, .int .i64 200, .int .i64 0, .int .i64 0, .int .i64 1, .int .i64 0, .slice none 0 0, .slice none 0 0, .slice none 0 0, .slice none 0 0, .slice (some ⟨w.heap.size + 4, 0, none⟩) 1 1, .slice none 0 0, .bool false, .slice none 0 0, .int .i64 0, .int .i64 0, .string ⟨#[]⟩, .bool false, .bool false, .bool false]), (47, [.string ⟨#[115]⟩, .int .i64 200, .int .i64 0, .int .i64 0, .int .i64 1, .int .i64 0, .slice none 0 0, .slice none 0 0, .slice none 0 0, .slice none 0 0, .slice none 0 0, .slice none 0 0, .bool false, .slice none 0 0, .int .i64 0, .int .i64 0, .string ⟨#[]⟩, .bool false, .bool false, .bool false]), (3, [.int .i64 80]), (47, [.string ⟨#[112]⟩, .int .i64 1000, .int .i64 0, .int .i64 0, .int .i64 1, .int .i64 0, .slice none 0 0, .slice none 0 0, .slice none 0 0, .slice none 0 0, .slice (some ⟨w.heap.size + 7, 0, none⟩) 1 1, .slice none 0 0, .bool false, .slice none 0 0, .int .i64 0, .int .i64 0, .string ⟨#[]⟩, .bool false, .bool false, .bool false]), (47, [.string ⟨#[115]⟩, .int .i64 200, .int .i64 0, .int .i64 0, .int .i64 1, .int .i64 0, .slice none 0 0, .slice none 0 0, .slice none 0 0, .slice none 0 0, .slice none 0 0, .slice none 0 0, .bool false, .slice none 0 0, .int .i64 0, .int .i64 0, .string ⟨#[]⟩, .bool false, .bool false, .bool false])] : List (TypeId × List Value))[i]? = some x → Blk V (w.heap.size + i) x.1 x.2 := fun i x hi hx => by
    rw [hV, hW8]
    exact ((HK7.out.at' i x hx).other (by show w.heap.size + i ≠ w.heap.size + 9; omega) _).alloc _
  have hlb : Blk V (w.heap.size + 10) 71 [.string ⟨#[97]⟩, .string ⟨#[98]⟩] := by
    have h9 := Blk.new W8 71 [.string ⟨#[97]⟩, .string ⟨#[98]⟩]
    rw [hz8] at h9
    rw [hV]
    exact h9
  have huu : Blk V (w.heap.size + 9) 47 (prow (uT w.heap.size)) := by
    rw [hV, hW8]
    exact ((HK7.out.at' 9 _ rfl).set 7 (.slice (some ⟨w.heap.size + 10, 0, none⟩) 1 1)).alloc _
  have hbl : Below w.heap.size w V := by
    rw [hV, hW8]
    exact (HK7.out.bl.setCell (by show w.heap.size ≤ w.heap.size + 9; omega) _).alloc (by simp; rw [hs7]; omega) _
  have HC := Lib.hid (show K10 w V from ⟨hot 0 _ (by decide) rfl, blk_rows (enc := pcs) (K := 1) (l := [80]) (fun x => rfl) (hot 1 _ (by decide) rfl), blk_rows (enc := brow) (K := 21) (l := [bT w.heap.size]) brow_len (hot 2 _ (by decide) rfl), hot 3 _ (by decide) rfl, blk_rows (enc := pcs) (K := 1) (l := [80]) (fun x => rfl) (hot 4 _ (by decide) rfl), hot 5 _ (by decide) rfl, hot 6 _ (by decide) rfl, blk_rows (enc := pcs) (K := 1) (l := [80]) (fun x => rfl) (hot 7 _ (by decide) rfl), hot 8 _ (by decide) rfl, huu, blk_rows (enc := kcs) (K := 2) (l := [⟨⟨#[97]⟩, ⟨#[98]⟩⟩]) kcs_len hlb, hbl⟩)
  rw [← hW8, ← hV]
  clear hot hV hlb huu hbl hz8 hW8 HK7 y7 f7 hs7 Hs1 Hs2 Hs3 Hs4 Hs5 Hs6 Hs7
  go_step
  (try dsimp only [List.append])
  go_wp2_with (first
    | ((with_reducible refine at_load (ty := 35) ?_); refine load_cells rfl 35 (.tmp 1) rfl (w.heap.size) 0 rfl (mrow mT) _ Try.underlying35 rfl (by kernel_rfl) (blk_range HC.out.m) ?_)
    | ((with_reducible refine at_load (ty := 47) ?_); refine load_cells rfl 47 (.tmp 3) rfl (w.heap.size + 3) 0 rfl (prow qT) _ Try.underlying47 rfl (by kernel_rfl) (blk_range HC.out.q) ?_)
    | ((with_reducible refine at_load (ty := 47) ?_); refine load_cells rfl 47 (.tmp 4) rfl (w.heap.size + 5) 0 rfl (prow (rT w.heap.size)) _ Try.underlying47 rfl (by kernel_rfl) (blk_range HC.out.r) ?_)
    | ((with_reducible refine at_load (ty := 47) ?_); refine load_cells rfl 47 (.tmp 5) rfl (w.heap.size + 6) 0 rfl (prow sT) _ Try.underlying47 rfl (by kernel_rfl) (blk_range HC.out.s) ?_)
    | ((with_reducible refine at_load (ty := 47) ?_); refine load_cells rfl 47 (.tmp 6) rfl (w.heap.size + 8) 0 rfl (prow (tT w.heap.size)) _ Try.underlying47 rfl (by kernel_rfl) (blk_range HC.out.t) ?_)
    | ((with_reducible refine at_load (ty := 47) ?_); refine load_cells rfl 47 (.tmp 7) rfl (w.heap.size + 9) 0 rfl (prow (uT w.heap.size)) _ Try.underlying47 rfl (by kernel_rfl) (blk_range HC.out.u) ?_)
    | (go_at_call 33; (with_reducible refine (ta_room1 HC.out).mono ?_); rintro e w1 ⟨rfl, hb⟩; have HD := Lib.hid (HC.out.mono hb); clear HC hb; have HC := HD; clear HD)
    | (go_at_call 33; (with_reducible refine (ta_room2 HC.out).mono ?_); rintro e w1 ⟨rfl, hb⟩; have HD := Lib.hid (HC.out.mono hb); clear HC hb; have HC := HD; clear HD)
    | (go_at_call 26; (with_reducible refine (ta_suit1 HC.out).mono ?_); rintro e w1 ⟨rfl, hb⟩; have HD := Lib.hid (HC.out.mono hb); clear HC hb; have HC := HD; clear HD)
    | (go_at_call 26; (with_reducible refine (ta_suit2 HC.out).mono ?_); rintro e w1 ⟨rfl, hb⟩; have HD := Lib.hid (HC.out.mono hb); clear HC hb; have HC := HD; clear HD)
    | (go_at_call 31; (with_reducible refine (ta_place HC.out).mono ?_); rintro e w1 ⟨rfl, hb⟩; have HD := Lib.hid (HC.out.mono hb); clear HC hb; have HC := HD; clear HD)
    | (go_at_call 26; (with_reducible refine (ta_suit3 HC.out).mono ?_); rintro e w1 ⟨rfl, hb⟩; have HD := Lib.hid (HC.out.mono hb); clear HC hb; have HC := HD; clear HD)
    | (go_at_call 32; (with_reducible refine (ta_pref HC.out).mono ?_); rintro e w1 ⟨rfl, hb⟩; have HD := Lib.hid (HC.out.mono hb); clear HC hb; have HC := HD; clear HD))
  go_ret
  exact ⟨rfl, HC.out.bl⟩
end Go.Proofs.Ythbpnfpalcgfeaa
