/-
  SuitLess.
-/
import Derived.Test.YthbpnfpalcgfeaaSuA
import Derived.Test.YthbpnfpalcgfeaaYeC
import Derived.Test.YthbpnfpalcgfeaaSLp
namespace Go.Proofs.Ythbpnfpalcgfeaa
open Go.ChangeShapes Go.WideShapes Go.ChangeAt Go.RowKit
set_option linter.unusedVariables false
set_option linter.unusedSimpArgs false
namespace suitLess

set_option maxRecDepth 100000 in
set_option maxHeartbeats 4000000 in
theorem case_open2 {H : Type} {enc : TypeId × Value → H} {W : World} {fuel : Nat} {cs : List Value} {y : DataW H × List MemPlace} (hl : cs.length = 36)
    (h : DataW.trod enc Try.prog W 0 (fun _ => true) true fuel 49 cs = some y) :
    ∃ (m : Mac) (a : Option Addr) (l : List Bd) (k : Nat) (p : Pd) (i0 i1 i2 i3 i4 : Int), cs = crow m a l.length k p i0 i1 i2 i3 i4 ∧ MacIn W m ∧ PodIn W p ∧ BndL W a l ∧ l.length ≤ maxLen ∧ l.length ≤ k ∧ ∀ x ∈ l, BndIn W x := by
  obtain ⟨zs, _, _, _, _, hlen3, hk⟩ := DataW.trod_struct Try.underlying49 h
  match cs, hl with
  | c0 :: c1 :: c2 :: c3 :: c4 :: c5 :: c6 :: c7 :: c8 :: c9 :: c10 :: c11 :: c12 :: c13 :: c14 :: c15 :: c16 :: c17 :: c18 :: c19 :: c20 :: c21 :: c22 :: c23 :: c24 :: c25 :: c26 :: c27 :: c28 :: c29 :: c30 :: c31 :: c32 :: c33 :: c34 :: c35 :: [], _ =>
    match zs, hlen3 with
    | [z0, z1, z2, z3], _ =>
      have k0 := hk 0 _ rfl
      have k1 := hk 1 _ rfl
      have k2 := hk 2 _ rfl
      have k3 := hk 3 _ rfl
      obtain ⟨a1, l1, k1', r1⟩ := Go.Joins.slice_form Try.underlying23 k1
      rw [r1] at k1
      obtain ⟨L, g1, g2, g3, g4⟩ := open_nested_in (K := 21) (enc := brow) (In := BndIn) Try.underlying23 Try.cells56 (by decide) (fun cs fuel y hl h => bnd_open hl h) k1
      obtain ⟨us, _, _, _, _, hlen5, hv⟩ := DataW.trod_struct Try.underlying29 k3
      match us, hlen5 with
      | [u0, u1, u2, u3, u4], _ =>
        have v0 := hv 0 _ rfl
        have v1 := hv 1 _ rfl
        have v2 := hv 2 _ rfl
        have v3 := hv 3 _ rfl
        have v4 := hv 4 _ rfl
        obtain ⟨i0, p0, _⟩ := DataW.trod_int Try.underlying3 v0
        obtain ⟨i1, p1, _⟩ := DataW.trod_int Try.underlying3 v1
        obtain ⟨i2, p2, _⟩ := DataW.trod_int Try.underlying3 v2
        obtain ⟨i3, p3, _⟩ := DataW.trod_int Try.underlying3 v3
        obtain ⟨i4, p4, _⟩ := DataW.trod_int Try.underlying3 v4
        simp [cells_int, Try.cells35, Try.cells47, Try.cells23, Try.cells29] at k0 k2 r1 p0 p1 p2 p3 p4
        have g5 := (nested_cap Try.underlying23 k1).2
        obtain ⟨m, hm, hM⟩ := mac_open rfl k0
        obtain ⟨p, hp, hP⟩ := pod_open rfl k2
        subst g1
        refine ⟨m, a1, L, k1', p, i0, i1, i2, i3, i4, ?_, hM, hP, g2, g3, g5, g4⟩
        show [c0, c1, c2, c3, c4, c5, c6, c7, c8, c9] ++ c10 :: ([c11, c12, c13, c14, c15, c16, c17, c18, c19, c20, c21, c22, c23, c24, c25, c26, c27, c28, c29, c30] ++ [c31, c32, c33, c34, c35]) = _
        rw [hm, hp, r1, p0, p1, p2, p3, p4]
        rfl
set_option maxRecDepth 100000 in
theorem open_case2 {H : Type} {enc : TypeId × Value → H} {W : World} {base : Nat} {v : Value} {d : DataW H} {q : List MemPlace}
    (hv : Value.okWide Try.prog W .any base 49 v) (h : DataW.Trod enc Try.prog W 0 (fun _ => true) true 49 v d q) :
    ∃ (m : Mac) (a : Option Addr) (l : List Bd) (k : Nat) (p : Pd) (i0 i1 i2 i3 i4 : Int), v = .agg (crow m a l.length k p i0 i1 i2 i3 i4).toArray ∧ MacIn W m ∧ PodIn W p ∧ BndL W a l ∧ l.length ≤ maxLen ∧ l.length ≤ k ∧ ∀ x ∈ l, BndIn W x := by
  obtain ⟨cs, rfl, hsz⟩ := okWide_struct Try.underlying49 hv
  rw [Try.cells49] at hsz
  obtain ⟨fuel, hf⟩ := h
  obtain ⟨l⟩ := cs
  obtain ⟨m, a, L, k, p, i0, i1, i2, i3, i4, e, h1, h2, h3, h4, h5, h6⟩ := case_open2 (cs := l) hsz hf
  exact ⟨m, a, L, k, p, i0, i1, i2, i3, i4, by rw [e], h1, h2, h3, h4, h5, h6⟩
theorem rows_take {α : Type} {enc : α → List Value} {K : Nat} {w : World} {a : Option Addr} {l : List α} (h : RowsAt enc K w a l) (k : Nat) : RowsAt enc K w a (l.take k) := fun h0 => by
  have hl : 0 < l.length := by rw [List.length_take] at h0; omega
  obtain ⟨b, o, e, hb, hc⟩ := h hl
  exact ⟨b, o, e, hb, fun i x hx r hr => hc i x (by rw [List.getElem?_take] at hx; split at hx; exact hx; cases hx) r hr⟩
theorem rows_drop {α : Type} {enc : α → List Value} {K : Nat} {w : World} {b o : Nat} {l : List α} (h : RowsAt enc K w (some ⟨b, o, none⟩) l) (k : Nat) : RowsAt enc K w (some ⟨b, o + k * K, none⟩) (l.drop k) := fun h0 => by
  have hl : 0 < l.length := by rw [List.length_drop] at h0; omega
  obtain ⟨b', o', e, hb, hc⟩ := h hl
  injection e with e
  injection e with e1 e2
  subst e1 e2
  refine ⟨b, _, rfl, hb, fun i x hx r hr => ?_⟩
  rw [List.getElem?_drop] at hx
  rw [← hc (k + i) x hx r hr, Nat.add_mul, ← Nat.add_assoc]
theorem sub_one {α : Type} (l : List α) (k : Nat) : (l.take k ++ l.drop (k + 1)).Sublist l := by
  have h : (l.take k ++ l.drop (k + 1)).Sublist (l.take k ++ l.drop k) := (List.Sublist.refl _).append (by rw [← List.drop_drop]; exact List.drop_sublist _ _)
  rw [List.take_append_drop] at h
  exact h
/-- The law's own copies. -/
structure SL (w : World) (M P L : Nat) (m : Mac) (p : Pd) (i0 i1 i2 i3 i4 : Int) (V : World) : Prop where
  m : Blk V M 35 (mrow m)
  p : Blk V P 47 (prow p)
  l : Blk V L 29 [.int .i64 i0, .int .i64 i1, .int .i64 i2, .int .i64 i3, .int .i64 i4]
  bl : Below w.heap.size w V
theorem SL.mono {w V V' : World} {M P L : Nat} {m : Mac} {p : Pd} {i0 i1 i2 i3 i4 : Int} (h : SL w M P L m p i0 i1 i2 i3 i4 V) (hb : Below V.heap.size V V') : SL w M P L m p i0 i1 i2 i3 i4 V' :=
  ⟨h.m.below hb, h.p.below hb, h.l.below hb, h.bl.trans (hb.mono h.bl.size)⟩
theorem SL.push {w V : World} {M P L : Nat} {m : Mac} {p : Pd} {i0 i1 i2 i3 i4 : Int} (h : SL w M P L m p i0 i1 i2 i3 i4 V) (o : Obj) : SL w M P L m p i0 i1 i2 i3 i4 (V.alloc o) := h.mono ((Below.refl _ _).alloc (Nat.le_refl _) o)
theorem SL.set {w V : World} {M P L : Nat} {m : Mac} {p : Pd} {i0 i1 i2 i3 i4 : Int} (h : SL w M P L m p i0 i1 i2 i3 i4 V) {q : Addr} (h1 : M ≠ q.block) (h2 : P ≠ q.block) (h3 : L ≠ q.block) (h4 : w.heap.size ≤ q.block) (v : Value) : SL w M P L m p i0 i1 i2 i3 i4 (V.setCell q v) :=
  ⟨h.m.other h1 v, h.p.other h2 v, h.l.other h3 v, h.bl.setCell h4 v⟩
theorem CB.rl {w V : World} {m : Mac} {c : Option Addr} {n kc : Nat} {p : Pd} {i0 i1 i2 i3 i4 : Int} (h : CB w m c n kc p i0 i1 i2 i3 i4 V) : V.rangeAt w.heap.size 31 [.int .i64 i0, .int .i64 i1, .int .i64 i2, .int .i64 i3, .int .i64 i4] := fun j v hj => by
  rw [h.bx.cell]
  unfold crow
  rw [List.getElem?_append_right (by show 10 ≤ 31 + j; omega), show 31 + j - (mrow m).length = 20 + j + 1 by show 31 + j - 10 = 20 + j + 1; omega, List.getElem?_cons_succ, List.getElem?_append_right (by show 20 ≤ 20 + j; omega), show 20 + j - (prow p).length = j by show 20 + j - 20 = j; omega]
  exact hj

theorem less_light {p : Pd} {a0 a1 a2 a4 : Int} (h : lightP p = true) : lightP (pLess p a0 a1 a2 a4) = true := by
  unfold lightP at h ⊢
  simp only [Bool.and_eq_true] at h ⊢
  obtain ⟨⟨⟨⟨⟨⟨⟨⟨⟨h0, h1⟩, h2⟩, h3⟩, h4⟩, h5⟩, h6⟩, h7⟩, h8⟩, h9⟩ := h
  exact ⟨⟨⟨⟨⟨⟨⟨⟨⟨h0, h1⟩, h2⟩, rfl⟩, h4⟩, h5⟩, h6⟩, h7⟩, h8⟩, h9⟩
theorem less_at {V : World} {p : Pd} {a0 a1 a2 a4 : Int} (h : PodAt V p) : PodAt V (pLess p a0 a1 a2 a4) := ⟨h.labs, h.sels, h.trms, h.trmA, h.bers, RowsAt.nil, h.aprs, h.spds, h.ll, h.sl, h.tl, h.bl, Nat.zero_le _, h.al, h.dl⟩

theorem least_of {n0 n1 n2 n3 n4 i0 i1 i2 i3 i4 : Int} (hn : (0 ≤ n0 ∧ n0 ≤ 1125899906842624) ∧ (0 ≤ n1 ∧ n1 ≤ 1125899906842624) ∧ (0 ≤ n2 ∧ n2 ≤ 1125899906842624) ∧ (0 ≤ n3 ∧ n3 ≤ 1125899906842624) ∧ (0 ≤ n4 ∧ n4 ≤ 1125899906842624)) (hi : (0 ≤ i0 ∧ i0 ≤ 1125899906842624) ∧ (0 ≤ i1 ∧ i1 ≤ 1125899906842624) ∧ (0 ≤ i2 ∧ i2 ≤ 1125899906842624) ∧ (0 ≤ i3 ∧ i3 ≤ 1125899906842624) ∧ (0 ≤ i4 ∧ i4 ≤ 1125899906842624)) :
    ∃ a0 a1 a2 a3 a4 : Int, (∀ V, Calls Try.prog 27 #[.agg #[.int .i64 n0, .int .i64 n1, .int .i64 n2, .int .i64 n3, .int .i64 n4], .agg #[.int .i64 i0, .int .i64 i1, .int .i64 i2, .int .i64 i3, .int .i64 i4]] V fun e w' => e = .returned (.agg #[.int .i64 a0, .int .i64 a1, .int .i64 a2, .int .i64 a3, .int .i64 a4]) ∧ Below V.heap.size V w') ∧ (0 ≤ a0 ∧ a0 ≤ n0) ∧ (0 ≤ a1 ∧ a1 ≤ n1) ∧ (0 ≤ a2 ∧ a2 ≤ n2) ∧ (0 ≤ a4 ∧ a4 ≤ n4) := by
  have e : ∀ x y, Rs.leastC n0 n1 n2 n3 n4 i0 i1 i2 i3 i4 x y = minI x y := fun x y => by
    unfold Rs.leastC
    rw [if_pos ⟨(rtB_iff _ _ _ _ _).2 hn, (rtB_iff _ _ _ _ _).2 hi⟩]
  refine ⟨minI n0 i0, minI n1 i1, minI n2 i2, minI n3 i3, minI n4 i4, fun V => ?_, ?_⟩
  · have h9 := Rs.refleast_any n0 n1 n2 n3 n4 i0 i1 i2 i3 i4 V
    simp only [e] at h9
    exact h9
  · have m0 := minI_le n0 i0
    have m1 := minI_le n1 i1
    have m2 := minI_le n2 i2
    have m4 := minI_le n4 i4
    omega

set_option maxRecDepth 100000 in
set_option maxHeartbeats 16000000 in
theorem walk1 (m : Mac) (c : Option Addr) (kc : Nat) (bs : List Bd) (p : Pd) (i0 i1 i2 i3 i4 : Int) (w : World) (hM : MacIn w m) (hP : PodIn w p) (hG : BndL w c bs) (hl : bs.length ≤ maxLen) (hcap : bs.length ≤ kc) (hB : ∀ b ∈ bs, BndIn w b) :
    Calls Try.prog 6 #[.agg (crow m c bs.length kc p i0 i1 i2 i3 i4).toArray] w fun e w' => e = .returned (.bool true) ∧ Below w.heap.size w w' := by
  obtain ⟨n, hn⟩ : ∃ n, bs.length = n := ⟨_, rfl⟩
  obtain ⟨W, hW⟩ : ∃ W, W = w.alloc (.cells (crow m c n kc p i0 i1 i2 i3 i4).toArray 49) := ⟨_, rfl⟩
  have HX := Lib.hid (show CB w m c n kc p i0 i1 i2 i3 i4 W from ⟨by rw [hW]; exact Box.new w _ _, by rw [hW]; exact (Below.refl _ w).alloc (Nat.le_refl _) _⟩)
  have hone : ∀ V, ∀ x ∈ [m], Below w.heap.size w V → MacIn V x := fun V x hx hV => by
    obtain rfl : x = m := by simpa using hx
    exact hM.mono hV
  have hX : ∀ V : World, MacL (V.alloc (.cells (mrow m).toArray 35)) (some ⟨V.heap.size, 0, none⟩) [m] := fun V => by
    have h9 := RowsAt.new (enc := mrow) (K := 10) (fun _ => rfl) V [m] 35
    rw [show [m].flatMap mrow = mrow m from List.append_nil _] at h9
    exact h9
  have hPu : ∀ (V : World) o, Below w.heap.size w V → Below w.heap.size w (V.alloc o) := fun V o h => h.alloc h.size o
  have hLi := fun V (hV : Below w.heap.size w V) => lighty_any (some ⟨V.heap.size, 0, none⟩) 1 [m] c kc bs (V.alloc (.cells (mrow m).toArray 35)) (hX V) (hG.mono (hPu _ _ hV)) (fun x hx => hone _ x hx (hPu _ _ hV)) (fun b hb => (hB b hb).mono (hPu _ _ hV)) one_le hl
  have hLp := fun V (hV : Below w.heap.size w V) => lightp_any p V (hP.here.mono hV)
  have hCk := fun V (hV : Below w.heap.size w V) (hL : lightY [m] bs = true) => rcheck_any (some ⟨V.heap.size, 0, none⟩) 1 [m] c kc bs (V.alloc (.cells (mrow m).toArray 35)) (hX V) (hG.mono (hPu _ _ hV)) (fun x hx => hone _ x hx (hPu _ _ hV)) (fun b hb => (hB b hb).mono (hPu _ _ hV)) (lightY_iff hL).2.2.1 (fun b hb => ((lightY_iff hL).2.2.2 b hb).1) (by show 1 ≤ 200; decide) (by have := (lightY_iff hL).2.1; omega)
  have hRp := fun V (hV : Below w.heap.size w V) (hL : lightP p = true) => refrightp_any p V (hP.here.mono hV) hL
  have hbp : lightY [m] bs = true → ∀ b ∈ bs, b.p.prts.length ≤ 1000000 := fun hL b hb => by have := (lightP_iff ((lightY_iff hL).2.2.2 b hb).1).pl; omega
  have hSu := fun V (hV : Below w.heap.size w V) (hL : lightY [m] bs = true) (q : Pd) (hq : lightP q = true) (hqa : PodAt V q) => ssuits_any m c kc bs q V (hM.here.mono hV) (hG.mono hV) (fun b hb => ((hB b hb).mono hV).here) hqa ((lightY_iff hL).2.2.1 m (List.mem_singleton.2 rfl)) hq (by have := (lightY_iff hL).2.1; omega) (hbp hL)
  have hSf := fun a k (fs : List Bd) V (hV : Below w.heap.size w V) (hL : lightY [m] bs = true) (hp : lightP p = true) (hfs : fs.Sublist bs) (hr : BndL V a fs) => ssuits_any m a k fs p V (hM.here.mono hV) hr (fun b hb => ((hB b (hfs.subset hb)).mono hV).here) (hP.here.mono hV) ((lightY_iff hL).2.2.1 m (List.mem_singleton.2 rfl)) hp (by have := (lightY_iff hL).2.1; have := hfs.length_le; omega) (fun b hb => hbp hL b (hfs.subset hb))
  obtain ⟨b1, h1⟩ : ∃ b, lightY [m] bs = b := ⟨_, rfl⟩
  obtain ⟨b2, h2⟩ : ∃ b, lightP p = b := ⟨_, rfl⟩
  obtain ⟨E, h3⟩ : ∃ b, checkY [m] bs = b := ⟨_, rfl⟩
  obtain ⟨b4, h4⟩ : ∃ b, rightP p = b := ⟨_, rfl⟩
  obtain ⟨Sv, h5⟩ : ∃ b, suitS m bs p = b := ⟨_, rfl⟩
  have hS1 := fun V (hV : Below w.heap.size w V) (hL : b1 = true) (hp : b2 = true) => hSu V hV (h1.trans hL) p (h2.trans hp) (hP.here.mono hV)
  have hS2 := fun V (hV : Below w.heap.size w V) (hL : b1 = true) (hp : b2 = true) (a0 a1 a2 a4 : Int) (h3 : p.n3 = 1) (hs : Sv = 0) (g0 : 0 ≤ a0 ∧ a0 ≤ p.n0) (g1 : 0 ≤ a1 ∧ a1 ≤ p.n1) (g2 : 0 ≤ a2 ∧ a2 ≤ p.n2) (g4 : 0 ≤ a4 ∧ a4 ≤ p.n4) => (suit_less (m := m) (bs := bs) (h5.trans hs) h3 g0 g1 g2 g4) ▸ hSu V hV (h1.trans hL) (pLess p a0 a1 a2 a4) (less_light (h2.trans hp)) (less_at (hP.here.mono hV))
  have hS3 := fun a k (j : Nat) V (hV : Below w.heap.size w V) (hL : b1 = true) (hp : b2 = true) (hm : rt5 (hasM m) = true) (h3 : p.n3 = 1) (hs : Sv = 0) (hr : BndL V a (bs.take j ++ bs.drop (j + 1))) => (suit_fewer (m := m) hm (h5.trans hs) h3 (sub_one bs j)) ▸ hSf a k (bs.take j ++ bs.drop (j + 1)) V hV (h1.trans hL) (h2.trans hp) (sub_one bs j) hr
  have Hrt := Lib.hid (show E = 0 → rt5 (hasM m) = true from fun he => by
    obtain ⟨-, hok, -, -, -⟩ := check_zero (h3.trans he)
    have h9 := List.all_eq_true.1 hok m (List.mem_singleton.2 rfl)
    unfold okM rightM at h9
    simp only [Bool.and_eq_true] at h9
    exact h9.2.1.1.2)
  have Hn3 := Lib.hid (show b4 = true → p.n3 = 1 ∧ rtB p.n0 p.n1 p.n2 p.n3 p.n4 = true from fun hb => by
    have h9 := h4.trans hb
    unfold rightP at h9
    simp only [Bool.and_eq_true, decide_eq_true_eq] at h9
    exact ⟨h9.1.1.1.1.1.1.1.1.1.1.2, h9.1.1.1.1.1.1.1.1.1.1.1.2⟩)
  rw [h1, hn] at hLi
  rw [h2] at hLp
  simp only [h1, h3, hn] at hCk
  simp only [h2, h4] at hRp
  simp only [h5, hn] at hS1
  simp only [hn] at hS2
  rw [hn]
  have H40 := Lib.hid (show b1 = true → n ≤ 40 from fun h => by have := (lightY_iff (h1.trans h)).2.1; omega)
  have hlen : ∀ j, j < n → (bs.take j ++ bs.drop (j + 1)).length = n - 1 := fun j hj => by rw [List.length_append, List.length_take, List.length_drop, hn]; omega
  rw [hn] at hcap hl
  have Hn := Lib.hid hn
  have HG := Lib.hid hG
  clear h1 h2 h3 h4 h5 hone hbp hM hP hG hB hSu hSf hX hPu hn
  have hXm : ∀ V, CB w m c n kc p i0 i1 i2 i3 i4 V → V.rangeAt w.heap.size 0 (mrow m) := fun V h => h.rm
  have hXp : ∀ V, CB w m c n kc p i0 i1 i2 i3 i4 V → V.rangeAt w.heap.size 11 (prow p) := fun V h => h.rp
  obtain ⟨CC, hCC⟩ : ∃ C, C = CB w m c n kc p i0 i1 i2 i3 i4 := ⟨_, rfl⟩
  have HCl := Lib.hid (show ∀ V, CC V → V.rangeAt w.heap.size 31 [.int .i64 i0, .int .i64 i1, .int .i64 i2, .int .i64 i3, .int .i64 i4] from fun V h => by rw [hCC] at h; exact CB.rl h)
  have HCb := Lib.hid (show ∀ V, CC V → V.cell? ⟨w.heap.size, 10, none⟩ = some (.slice c n kc) from fun V h => by rw [hCC] at h; exact h.cb)
  have HCu := Lib.hid (show ∀ V o, CC V → CC (V.alloc o) from fun V o h => by rw [hCC] at h ⊢; exact h.push o)
  have HClt := Lib.hid (show ∀ V, CC V → w.heap.size < V.heap.size from fun V h => by rw [hCC] at h; exact h.bx.lt)
  have HCw := Lib.hid (show ∀ V, CC V → Below w.heap.size w V from fun V h => by rw [hCC] at h; exact h.bl)
  rw [← hCC] at HX hXm hXp
  clear hCC
  obtain ⟨MM, hMM⟩ : ∃ M, W.heap.size = M := ⟨_, rfl⟩
  have HMM := Lib.hid hMM
  clear hMM
  have hsl : ∀ (Pz Lz : Nat) V, SL w MM Pz Lz m p i0 i1 i2 i3 i4 V → True := fun _ _ _ _ => trivial
  obtain ⟨SS, hSS⟩ : ∃ S, S = fun Pz Lz => SL w MM Pz Lz m p i0 i1 i2 i3 i4 := ⟨_, rfl⟩
  have hSm : ∀ Pz Lz V, SS Pz Lz V → V.rangeAt MM 0 (mrow m) := fun Pz Lz V h => by rw [hSS] at h; exact blk_range h.m
  have hSp : ∀ Pz Lz V, SS Pz Lz V → V.rangeAt Pz 0 (prow p) := fun Pz Lz V h => by rw [hSS] at h; exact blk_range h.p
  have HSk := Lib.hid (show ∀ Pz Lz V, SS Pz Lz V → Lz < V.heap.size from fun Pz Lz V h => by rw [hSS] at h; exact h.l.lt)
  have HSl := Lib.hid (show ∀ Pz Lz V, SS Pz Lz V → V.rangeAt Lz 0 [.int .i64 i0, .int .i64 i1, .int .i64 i2, .int .i64 i3, .int .i64 i4] from fun Pz Lz V h => by rw [hSS] at h; exact blk_range h.l)
  have HSb := Lib.hid (show ∀ Pz Lz V, SS Pz Lz V → Below w.heap.size w V from fun Pz Lz V h => by rw [hSS] at h; exact h.bl)
  have HSo := Lib.hid (show ∀ Pz Lz V V', SS Pz Lz V → Below V.heap.size V V' → SS Pz Lz V' from fun Pz Lz V V' h hb => by rw [hSS] at h ⊢; exact h.mono hb)
  have HSu := Lib.hid (show ∀ Pz Lz V o, SS Pz Lz V → SS Pz Lz (V.alloc o) from fun Pz Lz V o h => by rw [hSS] at h ⊢; exact h.push o)
  have HSe := Lib.hid (show ∀ Pz Lz V (q : Addr) v, SS Pz Lz V → MM ≠ q.block → Pz ≠ q.block → Lz ≠ q.block → w.heap.size ≤ q.block → SS Pz Lz (V.setCell q v) from fun Pz Lz V q v h h1 h2 h3 h4 => by rw [hSS] at h ⊢; exact h.set h1 h2 h3 h4 v)
  have hSn : ∀ Pz Lz V, Blk V MM 35 (mrow m) → Blk V Pz 47 (prow p) → Blk V Lz 29 [.int .i64 i0, .int .i64 i1, .int .i64 i2, .int .i64 i3, .int .i64 i4] → Below w.heap.size w V → SS Pz Lz V := fun Pz Lz V h1 h2 h3 h4 => by rw [hSS]; exact ⟨h1, h2, h3, h4⟩
  clear hSS hsl
  obtain ⟨mn, mg, r0, r1, r2, r3, r4, ma, mk, ML, mta, mtk, MT, rd⟩ := m
  obtain ⟨nm, n0, n1, n2, n3, n4, la, lk, L, sa, sk, S, ta, tk, T, ba, bk, B, pa, pk, P, aa, ak, A, wd, da, dk, D, sw, rk, ow, dm, pn, lc⟩ := p
  have HLi := Lib.hid (show ∀ V, Below w.heap.size w V → Calls Try.prog 12 #[.slice (some ⟨V.heap.size, 0, none⟩) 1 1, .slice c n kc] (V.alloc (.cells #[.string mn, .string mg, .int .i64 r0, .int .i64 r1, .int .i64 r2, .int .i64 r3, .int .i64 r4, .slice ma ML.length mk, .slice mta MT.length mtk, .bool rd] 35)) fun e w' => e = .returned (.bool b1) ∧ Below (V.alloc (.cells #[.string mn, .string mg, .int .i64 r0, .int .i64 r1, .int .i64 r2, .int .i64 r3, .int .i64 r4, .slice ma ML.length mk, .slice mta MT.length mtk, .bool rd] 35)).heap.size (V.alloc (.cells #[.string mn, .string mg, .int .i64 r0, .int .i64 r1, .int .i64 r2, .int .i64 r3, .int .i64 r4, .slice ma ML.length mk, .slice mta MT.length mtk, .bool rd] 35)) w' from hLi)
  have HLp := Lib.hid (show ∀ V, Below w.heap.size w V → Calls Try.prog 23 #[.agg #[.string nm, .int .i64 n0, .int .i64 n1, .int .i64 n2, .int .i64 n3, .int .i64 n4, .slice la L.length lk, .slice sa S.length sk, .slice ta T.length tk, .slice ba B.length bk, .slice pa P.length pk, .slice aa A.length ak, .bool wd, .slice da D.length dk, .int .i64 sw, .int .i64 rk, .string ow, .bool dm, .bool pn, .bool lc]] V fun e w' => e = .returned (.bool b2) ∧ Below V.heap.size V w' from hLp)
  have HSm := Lib.hid (show ∀ Pz Lz V, SS Pz Lz V → V.rangeAt MM 0 [.string mn, .string mg, .int .i64 r0, .int .i64 r1, .int .i64 r2, .int .i64 r3, .int .i64 r4, .slice ma ML.length mk, .slice mta MT.length mtk, .bool rd] from hSm)
  have HSp := Lib.hid (show ∀ Pz Lz V, SS Pz Lz V → V.rangeAt Pz 0 [.string nm, .int .i64 n0, .int .i64 n1, .int .i64 n2, .int .i64 n3, .int .i64 n4, .slice la L.length lk, .slice sa S.length sk, .slice ta T.length tk, .slice ba B.length bk, .slice pa P.length pk, .slice aa A.length ak, .bool wd, .slice da D.length dk, .int .i64 sw, .int .i64 rk, .string ow, .bool dm, .bool pn, .bool lc] from hSp)
  have HXm := Lib.hid (show ∀ V, CC V → V.rangeAt w.heap.size 0 [.string mn, .string mg, .int .i64 r0, .int .i64 r1, .int .i64 r2, .int .i64 r3, .int .i64 r4, .slice ma ML.length mk, .slice mta MT.length mtk, .bool rd] from hXm)
  have HXp := Lib.hid (show ∀ V, CC V → V.rangeAt w.heap.size 11 [.string nm, .int .i64 n0, .int .i64 n1, .int .i64 n2, .int .i64 n3, .int .i64 n4, .slice la L.length lk, .slice sa S.length sk, .slice ta T.length tk, .slice ba B.length bk, .slice pa P.length pk, .slice aa A.length ak, .bool wd, .slice da D.length dk, .int .i64 sw, .int .i64 rk, .string ow, .bool dm, .bool pn, .bool lc] from hXp)
  have HSn := Lib.hid (show ∀ Pz Lz V, Blk V MM 35 [.string mn, .string mg, .int .i64 r0, .int .i64 r1, .int .i64 r2, .int .i64 r3, .int .i64 r4, .slice ma ML.length mk, .slice mta MT.length mtk, .bool rd] → Blk V Pz 47 [.string nm, .int .i64 n0, .int .i64 n1, .int .i64 n2, .int .i64 n3, .int .i64 n4, .slice la L.length lk, .slice sa S.length sk, .slice ta T.length tk, .slice ba B.length bk, .slice pa P.length pk, .slice aa A.length ak, .bool wd, .slice da D.length dk, .int .i64 sw, .int .i64 rk, .string ow, .bool dm, .bool pn, .bool lc] → Blk V Lz 29 [.int .i64 i0, .int .i64 i1, .int .i64 i2, .int .i64 i3, .int .i64 i4] → Below w.heap.size w V → SS Pz Lz V from hSn)
  replace hW : W = w.alloc (.cells #[.string mn, .string mg, .int .i64 r0, .int .i64 r1, .int .i64 r2, .int .i64 r3, .int .i64 r4, .slice ma ML.length mk, .slice mta MT.length mtk, .bool rd, .slice c n kc, .string nm, .int .i64 n0, .int .i64 n1, .int .i64 n2, .int .i64 n3, .int .i64 n4, .slice la L.length lk, .slice sa S.length sk, .slice ta T.length tk, .slice ba B.length bk, .slice pa P.length pk, .slice aa A.length ak, .bool wd, .slice da D.length dk, .int .i64 sw, .int .i64 rk, .string ow, .bool dm, .bool pn, .bool lc, .int .i64 i0, .int .i64 i1, .int .i64 i2, .int .i64 i3, .int .i64 i4] 49) := hW
  have hrow : (crow (⟨mn, mg, r0, r1, r2, r3, r4, ma, mk, ML, mta, mtk, MT, rd⟩ : Mac) c n kc (⟨nm, n0, n1, n2, n3, n4, la, lk, L, sa, sk, S, ta, tk, T, ba, bk, B, pa, pk, P, aa, ak, A, wd, da, dk, D, sw, rk, ow, dm, pn, lc⟩ : Pd) i0 i1 i2 i3 i4).toArray = #[.string mn, .string mg, .int .i64 r0, .int .i64 r1, .int .i64 r2, .int .i64 r3, .int .i64 r4, .slice ma ML.length mk, .slice mta MT.length mtk, .bool rd, .slice c n kc, .string nm, .int .i64 n0, .int .i64 n1, .int .i64 n2, .int .i64 n3, .int .i64 n4, .slice la L.length lk, .slice sa S.length sk, .slice ta T.length tk, .slice ba B.length bk, .slice pa P.length pk, .slice aa A.length ak, .bool wd, .slice da D.length dk, .int .i64 sw, .int .i64 rk, .string ow, .bool dm, .bool pn, .bool lc, .int .i64 i0, .int .i64 i1, .int .i64 i2, .int .i64 i3, .int .i64 i4] := rfl
  rw [hrow]
  clear hrow hLi hLp hSm hSp hXm hXp hSn
  have hCk1 := Lib.hid hCk
  have hRp1 := Lib.hid hRp
  have hS11 := Lib.hid hS1
  have hS21 := Lib.hid hS2
  have hS31 := Lib.hid hS3
  clear hCk hRp hS1 hS2 hS3
  go_enter Try.func6, Try.ntmps6
  go_upto_region 1 with (fail)
  rw [← hW]
  clear hW
  go_upto_region 2 with (first
    | ((with_reducible refine at_load (ty := 35) ?_); refine load_cells rfl 35 (.tmp 10) rfl w.heap.size 0 rfl [.string mn, .string mg, .int .i64 r0, .int .i64 r1, .int .i64 r2, .int .i64 r3, .int .i64 r4, .slice ma ML.length mk, .slice mta MT.length mtk, .bool rd] _ Try.underlying35 rfl (by kernel_rfl) (HXm.out _ HX.out) ?_)
    | ((with_reducible refine at_store (ty := 35) ?_); refine store_new rfl 35 (.tmp 3) (.tmp 11) rfl _ _ rfl rfl (by kernel_rfl) rfl (by rfl) rfl ?_))
  obtain ⟨W1, hW1⟩ : ∃ V, V = W.alloc (.cells #[.string mn, .string mg, .int .i64 r0, .int .i64 r1, .int .i64 r2, .int .i64 r3, .int .i64 r4, .slice ma ML.length mk, .slice mta MT.length mtk, .bool rd] 35) := ⟨_, rfl⟩
  have HX1 := Lib.hid (show CC W1 by rw [hW1]; exact HCu.out _ _ HX.out)
  have HM1 := Lib.hid (show Blk W1 MM 35 [.string mn, .string mg, .int .i64 r0, .int .i64 r1, .int .i64 r2, .int .i64 r3, .int .i64 r4, .slice ma ML.length mk, .slice mta MT.length mtk, .bool rd] by rw [hW1, ← HMM.out]; exact Blk.new W 35 [.string mn, .string mg, .int .i64 r0, .int .i64 r1, .int .i64 r2, .int .i64 r3, .int .i64 r4, .slice ma ML.length mk, .slice mta MT.length mtk, .bool rd])
  have hXM : w.heap.size < MM := by rw [← HMM.out]; exact HClt.out _ HX.out
  rw [← hW1, HMM.out]
  clear hW1 HX HMM
  have cb := HCb.out _ HX1.out
  have hlt := HClt.out _ HX1.out
  go_upto_region 4 with (first
    | ((with_reducible refine at_load (ty := 47) ?_); refine load_cells rfl 47 (.tmp 14) rfl w.heap.size 11 rfl [.string nm, .int .i64 n0, .int .i64 n1, .int .i64 n2, .int .i64 n3, .int .i64 n4, .slice la L.length lk, .slice sa S.length sk, .slice ta T.length tk, .slice ba B.length bk, .slice pa P.length pk, .slice aa A.length ak, .bool wd, .slice da D.length dk, .int .i64 sw, .int .i64 rk, .string ow, .bool dm, .bool pn, .bool lc] _ Try.underlying47 rfl (by kernel_rfl) (HXp.out _ HX1.out) ?_)
    | ((with_reducible refine at_store (ty := 47) ?_); refine store_new rfl 47 (.tmp 5) (.tmp 15) rfl _ _ rfl rfl (by kernel_rfl) rfl (List.all_eq_true.2 (prow_one (⟨nm, n0, n1, n2, n3, n4, la, lk, L, sa, sk, S, ta, tk, T, ba, bk, B, pa, pk, P, aa, ak, A, wd, da, dk, D, sw, rk, ow, dm, pn, lc⟩ : Pd))) rfl ?_))
  obtain ⟨W2, hW2⟩ : ∃ V, V = W1.alloc (.cells #[.string nm, .int .i64 n0, .int .i64 n1, .int .i64 n2, .int .i64 n3, .int .i64 n4, .slice la L.length lk, .slice sa S.length sk, .slice ta T.length tk, .slice ba B.length bk, .slice pa P.length pk, .slice aa A.length ak, .bool wd, .slice da D.length dk, .int .i64 sw, .int .i64 rk, .string ow, .bool dm, .bool pn, .bool lc] 47) := ⟨_, rfl⟩
  obtain ⟨PP, hPP⟩ : ∃ M, W1.heap.size = M := ⟨_, rfl⟩
  have HX2 := Lib.hid (show CC W2 by rw [hW2]; exact HCu.out _ _ HX1.out)
  have HM2 := Lib.hid (show Blk W2 MM 35 [.string mn, .string mg, .int .i64 r0, .int .i64 r1, .int .i64 r2, .int .i64 r3, .int .i64 r4, .slice ma ML.length mk, .slice mta MT.length mtk, .bool rd] by rw [hW2]; exact HM1.out.alloc _)
  have HP2 := Lib.hid (show Blk W2 PP 47 [.string nm, .int .i64 n0, .int .i64 n1, .int .i64 n2, .int .i64 n3, .int .i64 n4, .slice la L.length lk, .slice sa S.length sk, .slice ta T.length tk, .slice ba B.length bk, .slice pa P.length pk, .slice aa A.length ak, .bool wd, .slice da D.length dk, .int .i64 sw, .int .i64 rk, .string ow, .bool dm, .bool pn, .bool lc] by rw [hW2, ← hPP]; exact Blk.new W1 47 [.string nm, .int .i64 n0, .int .i64 n1, .int .i64 n2, .int .i64 n3, .int .i64 n4, .slice la L.length lk, .slice sa S.length sk, .slice ta T.length tk, .slice ba B.length bk, .slice pa P.length pk, .slice aa A.length ak, .bool wd, .slice da D.length dk, .int .i64 sw, .int .i64 rk, .string ow, .bool dm, .bool pn, .bool lc])
  have hMP : MM < PP := by rw [← hPP]; exact HM1.out.lt
  rw [← hW2, hPP]
  clear hW2 HX1 HM1 hPP cb hlt
  go_upto_region 5 with (first
    | ((with_reducible refine at_load (ty := 29) ?_); refine load_cells rfl 29 (.tmp 16) rfl w.heap.size 31 rfl [.int .i64 i0, .int .i64 i1, .int .i64 i2, .int .i64 i3, .int .i64 i4] _ Try.underlying29 rfl (by kernel_rfl) (HCl.out _ HX2.out) ?_)
    | ((with_reducible refine at_store (ty := 29) ?_); refine store_new rfl 29 (.tmp 6) (.tmp 17) rfl _ _ rfl rfl (by kernel_rfl) rfl (by rfl) rfl ?_))
  obtain ⟨W3, hW3⟩ : ∃ V, V = W2.alloc (.cells #[.int .i64 i0, .int .i64 i1, .int .i64 i2, .int .i64 i3, .int .i64 i4] 29) := ⟨_, rfl⟩
  obtain ⟨LL, hLL⟩ : ∃ M, W2.heap.size = M := ⟨_, rfl⟩
  have hPL : PP < LL := by rw [← hLL]; exact HP2.out.lt
  have H0 := Lib.hid (show SS PP LL W3 from HSn.out PP LL W3 (by rw [hW3]; exact HM2.out.alloc _) (by rw [hW3]; exact HP2.out.alloc _) (by rw [hW3, ← hLL]; exact Blk.new W2 29 [.int .i64 i0, .int .i64 i1, .int .i64 i2, .int .i64 i3, .int .i64 i4]) (by rw [hW3]; exact HCw.out _ (HCu.out _ _ HX2.out)))
  rw [← hW3, hLL]
  clear hW3 HX2 HM2 HP2 hLL HCl HCb HCu HClt HCw HXm HXp HSn
  have HRm := Lib.hid (HSm.out PP LL)
  have HRq := Lib.hid (HSp.out PP LL)
  have HRl := Lib.hid (HSl.out PP LL)
  have HLl := Lib.hid (HSk.out PP LL)
  have HBl := Lib.hid (HSb.out PP LL)
  have HMo := Lib.hid (HSo.out PP LL)
  have HPu := Lib.hid (HSu.out PP LL)
  have HSt := Lib.hid (HSe.out PP LL)
  clear HSm HSp HSl HSk HSb HSo HSu HSe
  cases b1 with
  | false =>
    have HCk := HLp
    have HRp := HLp
    have HS1 := HLp
    clear hCk1 hRp1 hS11 hS21 hS31
    go_wp2_with (first
      | ((with_reducible refine at_load (ty := 35) ?_); refine load_cells rfl 35 (.tmp 3) rfl MM 0 rfl [.string mn, .string mg, .int .i64 r0, .int .i64 r1, .int .i64 r2, .int .i64 r3, .int .i64 r4, .slice ma ML.length mk, .slice mta MT.length mtk, .bool rd] _ Try.underlying35 rfl (by kernel_rfl) (HRm.out _ H0.out) ?_)
        | ((with_reducible refine at_load (ty := 47) ?_); refine load_cells rfl 47 (.tmp 5) rfl PP 0 rfl [.string nm, .int .i64 n0, .int .i64 n1, .int .i64 n2, .int .i64 n3, .int .i64 n4, .slice la L.length lk, .slice sa S.length sk, .slice ta T.length tk, .slice ba B.length bk, .slice pa P.length pk, .slice aa A.length ak, .bool wd, .slice da D.length dk, .int .i64 sw, .int .i64 rk, .string ow, .bool dm, .bool pn, .bool lc] _ Try.underlying47 rfl (by kernel_rfl) (HRq.out _ H0.out) ?_)
        | (go_at_call 12; (with_reducible refine (HLi.out _ (HBl.out _ H0.out)).mono ?_); rintro e w1 ⟨rfl, hb⟩; have HD := Lib.hid (HMo.out _ _ (HPu.out _ _ H0.out) hb); clear H0 hb; have H0 := HD; clear HD)
        | (go_at_call 23; (with_reducible refine (HLp.out _ (HBl.out _ H0.out)).mono ?_); rintro e w1 ⟨rfl, hb⟩; have HD := Lib.hid (HMo.out _ _ H0.out hb); clear H0 hb; have H0 := HD; clear HD)
        | (go_at_call 15; (with_reducible refine (HCk.out _ (HBl.out _ H0.out)).mono ?_); rintro e w1 ⟨rfl, hb⟩; have HD := Lib.hid (HMo.out _ _ (HPu.out _ _ H0.out) hb); clear H0 hb; have H0 := HD; clear HD)
        | (go_at_call 24; (with_reducible refine (HRp.out _ (HBl.out _ H0.out)).mono ?_); rintro e w1 ⟨rfl, hb⟩; have HD := Lib.hid (HMo.out _ _ H0.out hb); clear H0 hb; have H0 := HD; clear HD)
        | (go_at_call 26; (with_reducible refine (HS1.out _ (HBl.out _ H0.out)).mono ?_); rintro e w1 ⟨rfl, hb⟩; have HD := Lib.hid (HMo.out _ _ H0.out hb); clear H0 hb; have H0 := HD; clear HD)
      | (go_at_call 25; (with_reducible refine (sknown_any _).mono ?_); rintro e w1 ⟨rfl, hb⟩; have HD := Lib.hid (HMo.out _ _ H0.out hb); clear H0 hb; have H0 := HD; clear HD))
    go_ret
    exact ⟨rfl, HBl.out _ H0.out⟩
  | true =>
    cases b2 with
    | false =>
      have HCk := HLp
      have HRp := HLp
      have HS1 := HLp
      clear hCk1 hRp1 hS11 hS21 hS31
      go_wp2_with (first
        | ((with_reducible refine at_load (ty := 35) ?_); refine load_cells rfl 35 (.tmp 3) rfl MM 0 rfl [.string mn, .string mg, .int .i64 r0, .int .i64 r1, .int .i64 r2, .int .i64 r3, .int .i64 r4, .slice ma ML.length mk, .slice mta MT.length mtk, .bool rd] _ Try.underlying35 rfl (by kernel_rfl) (HRm.out _ H0.out) ?_)
          | ((with_reducible refine at_load (ty := 47) ?_); refine load_cells rfl 47 (.tmp 5) rfl PP 0 rfl [.string nm, .int .i64 n0, .int .i64 n1, .int .i64 n2, .int .i64 n3, .int .i64 n4, .slice la L.length lk, .slice sa S.length sk, .slice ta T.length tk, .slice ba B.length bk, .slice pa P.length pk, .slice aa A.length ak, .bool wd, .slice da D.length dk, .int .i64 sw, .int .i64 rk, .string ow, .bool dm, .bool pn, .bool lc] _ Try.underlying47 rfl (by kernel_rfl) (HRq.out _ H0.out) ?_)
          | (go_at_call 12; (with_reducible refine (HLi.out _ (HBl.out _ H0.out)).mono ?_); rintro e w1 ⟨rfl, hb⟩; have HD := Lib.hid (HMo.out _ _ (HPu.out _ _ H0.out) hb); clear H0 hb; have H0 := HD; clear HD)
          | (go_at_call 23; (with_reducible refine (HLp.out _ (HBl.out _ H0.out)).mono ?_); rintro e w1 ⟨rfl, hb⟩; have HD := Lib.hid (HMo.out _ _ H0.out hb); clear H0 hb; have H0 := HD; clear HD)
          | (go_at_call 15; (with_reducible refine (HCk.out _ (HBl.out _ H0.out)).mono ?_); rintro e w1 ⟨rfl, hb⟩; have HD := Lib.hid (HMo.out _ _ (HPu.out _ _ H0.out) hb); clear H0 hb; have H0 := HD; clear HD)
          | (go_at_call 24; (with_reducible refine (HRp.out _ (HBl.out _ H0.out)).mono ?_); rintro e w1 ⟨rfl, hb⟩; have HD := Lib.hid (HMo.out _ _ H0.out hb); clear H0 hb; have H0 := HD; clear HD)
          | (go_at_call 26; (with_reducible refine (HS1.out _ (HBl.out _ H0.out)).mono ?_); rintro e w1 ⟨rfl, hb⟩; have HD := Lib.hid (HMo.out _ _ H0.out hb); clear H0 hb; have H0 := HD; clear HD)
        | (go_at_call 25; (with_reducible refine (sknown_any _).mono ?_); rintro e w1 ⟨rfl, hb⟩; have HD := Lib.hid (HMo.out _ _ H0.out hb); clear H0 hb; have H0 := HD; clear HD))
      go_ret
      exact ⟨rfl, HBl.out _ H0.out⟩
    | true =>
      have HCk := Lib.hid (show ∀ V, Below w.heap.size w V → Calls Try.prog 15 #[.slice (some ⟨V.heap.size, 0, none⟩) 1 1, .slice c n kc] (V.alloc (.cells #[.string mn, .string mg, .int .i64 r0, .int .i64 r1, .int .i64 r2, .int .i64 r3, .int .i64 r4, .slice ma ML.length mk, .slice mta MT.length mtk, .bool rd] 35)) fun e w' => e = .returned (.int .i64 E) ∧ Below (V.alloc (.cells #[.string mn, .string mg, .int .i64 r0, .int .i64 r1, .int .i64 r2, .int .i64 r3, .int .i64 r4, .slice ma ML.length mk, .slice mta MT.length mtk, .bool rd] 35)).heap.size (V.alloc (.cells #[.string mn, .string mg, .int .i64 r0, .int .i64 r1, .int .i64 r2, .int .i64 r3, .int .i64 r4, .slice ma ML.length mk, .slice mta MT.length mtk, .bool rd] 35)) w' from fun V hV => hCk1.out V hV (by trivial))
      have HRp := Lib.hid (show ∀ V, Below w.heap.size w V → Calls Try.prog 24 #[.agg #[.string nm, .int .i64 n0, .int .i64 n1, .int .i64 n2, .int .i64 n3, .int .i64 n4, .slice la L.length lk, .slice sa S.length sk, .slice ta T.length tk, .slice ba B.length bk, .slice pa P.length pk, .slice aa A.length ak, .bool wd, .slice da D.length dk, .int .i64 sw, .int .i64 rk, .string ow, .bool dm, .bool pn, .bool lc]] V fun e w' => e = .returned (.bool b4) ∧ Below V.heap.size V w' from fun V hV => hRp1.out V hV (by trivial))
      have HS1 := Lib.hid (show ∀ V, Below w.heap.size w V → Calls Try.prog 26 #[.agg #[.string mn, .string mg, .int .i64 r0, .int .i64 r1, .int .i64 r2, .int .i64 r3, .int .i64 r4, .slice ma ML.length mk, .slice mta MT.length mtk, .bool rd], .slice c n kc, .agg #[.string nm, .int .i64 n0, .int .i64 n1, .int .i64 n2, .int .i64 n3, .int .i64 n4, .slice la L.length lk, .slice sa S.length sk, .slice ta T.length tk, .slice ba B.length bk, .slice pa P.length pk, .slice aa A.length ak, .bool wd, .slice da D.length dk, .int .i64 sw, .int .i64 rk, .string ow, .bool dm, .bool pn, .bool lc]] V fun e w' => e = .returned (.int .i64 Sv) ∧ Below V.heap.size V w' from fun V hV => hS11.out V hV (by trivial) (by trivial))
      clear hCk1 hRp1 hS11
      by_cases he : E = 0
      · subst he
        cases b4 with
        | false =>
          clear hS21 hS31
          go_wp2_with (first
            | ((with_reducible refine at_load (ty := 35) ?_); refine load_cells rfl 35 (.tmp 3) rfl MM 0 rfl [.string mn, .string mg, .int .i64 r0, .int .i64 r1, .int .i64 r2, .int .i64 r3, .int .i64 r4, .slice ma ML.length mk, .slice mta MT.length mtk, .bool rd] _ Try.underlying35 rfl (by kernel_rfl) (HRm.out _ H0.out) ?_)
              | ((with_reducible refine at_load (ty := 47) ?_); refine load_cells rfl 47 (.tmp 5) rfl PP 0 rfl [.string nm, .int .i64 n0, .int .i64 n1, .int .i64 n2, .int .i64 n3, .int .i64 n4, .slice la L.length lk, .slice sa S.length sk, .slice ta T.length tk, .slice ba B.length bk, .slice pa P.length pk, .slice aa A.length ak, .bool wd, .slice da D.length dk, .int .i64 sw, .int .i64 rk, .string ow, .bool dm, .bool pn, .bool lc] _ Try.underlying47 rfl (by kernel_rfl) (HRq.out _ H0.out) ?_)
              | (go_at_call 12; (with_reducible refine (HLi.out _ (HBl.out _ H0.out)).mono ?_); rintro e w1 ⟨rfl, hb⟩; have HD := Lib.hid (HMo.out _ _ (HPu.out _ _ H0.out) hb); clear H0 hb; have H0 := HD; clear HD)
              | (go_at_call 23; (with_reducible refine (HLp.out _ (HBl.out _ H0.out)).mono ?_); rintro e w1 ⟨rfl, hb⟩; have HD := Lib.hid (HMo.out _ _ H0.out hb); clear H0 hb; have H0 := HD; clear HD)
              | (go_at_call 15; (with_reducible refine (HCk.out _ (HBl.out _ H0.out)).mono ?_); rintro e w1 ⟨rfl, hb⟩; have HD := Lib.hid (HMo.out _ _ (HPu.out _ _ H0.out) hb); clear H0 hb; have H0 := HD; clear HD)
              | (go_at_call 24; (with_reducible refine (HRp.out _ (HBl.out _ H0.out)).mono ?_); rintro e w1 ⟨rfl, hb⟩; have HD := Lib.hid (HMo.out _ _ H0.out hb); clear H0 hb; have H0 := HD; clear HD)
              | (go_at_call 26; (with_reducible refine (HS1.out _ (HBl.out _ H0.out)).mono ?_); rintro e w1 ⟨rfl, hb⟩; have HD := Lib.hid (HMo.out _ _ H0.out hb); clear H0 hb; have H0 := HD; clear HD)
            | (go_at_call 25; (with_reducible refine (sknown_any _).mono ?_); rintro e w1 ⟨rfl, hb⟩; have HD := Lib.hid (HMo.out _ _ H0.out hb); clear H0 hb; have H0 := HD; clear HD))
          go_ret
          exact ⟨rfl, HBl.out _ H0.out⟩
        | true =>
          by_cases hs : Sv = 0
          · subst hs
            obtain ⟨hn3, hnr⟩ := Hn3.out (by trivial)
            dsimp only at hn3 hnr
            have hm := Hrt.out (by trivial)
            have h40 := H40.out (by trivial)
            clear H40
            have HS2 := Lib.hid (show ∀ V, Below w.heap.size w V → ∀ a0 a1 a2 a4 : Int, (0 ≤ a0 ∧ a0 ≤ n0) → (0 ≤ a1 ∧ a1 ≤ n1) → (0 ≤ a2 ∧ a2 ≤ n2) → (0 ≤ a4 ∧ a4 ≤ n4) → Calls Try.prog 26 #[.agg #[.string mn, .string mg, .int .i64 r0, .int .i64 r1, .int .i64 r2, .int .i64 r3, .int .i64 r4, .slice ma ML.length mk, .slice mta MT.length mtk, .bool rd], .slice c n kc, .agg #[.string nm, .int .i64 (a0), .int .i64 (a1), .int .i64 (a2), .int .i64 1, .int .i64 (a4), .slice la L.length lk, .slice sa S.length sk, .slice ta T.length tk, .slice ba B.length bk, .slice none 0 0, .slice aa A.length ak, .bool wd, .slice da D.length dk, .int .i64 sw, .int .i64 rk, .string ow, .bool dm, .bool pn, .bool lc]] V fun e w' => e = .returned (.int .i64 0) ∧ Below V.heap.size V w' from fun V hV a0 a1 a2 a4 g0 g1 g2 g4 => hS21.out V hV (by trivial) (by trivial) a0 a1 a2 a4 hn3 (by trivial) g0 g1 g2 g4)
            have HS3 := Lib.hid (show ∀ a k (j : Nat) V, j < n → Below w.heap.size w V → BndL V a (bs.take j ++ bs.drop (j + 1)) → Calls Try.prog 26 #[.agg #[.string mn, .string mg, .int .i64 r0, .int .i64 r1, .int .i64 r2, .int .i64 r3, .int .i64 r4, .slice ma ML.length mk, .slice mta MT.length mtk, .bool rd], .slice a (n - 1) k, .agg #[.string nm, .int .i64 n0, .int .i64 n1, .int .i64 n2, .int .i64 n3, .int .i64 n4, .slice la L.length lk, .slice sa S.length sk, .slice ta T.length tk, .slice ba B.length bk, .slice pa P.length pk, .slice aa A.length ak, .bool wd, .slice da D.length dk, .int .i64 sw, .int .i64 rk, .string ow, .bool dm, .bool pn, .bool lc]] V fun e w' => e = .returned (.int .i64 0) ∧ Below V.heap.size V w' from fun a k j V hj hV hr => by
              have h9 := hS31.out a k j V hV (by trivial) (by trivial) hm hn3 (by trivial) hr
              rw [hlen j hj] at h9
              exact h9)
            have Hnr := Lib.hid ((rtB_iff _ _ _ _ _).1 hnr)
            have Hn3' := Lib.hid hn3
            clear hS21 hS31 Hn3 Hrt hm hn3 hnr hlen
            go_upto_region 9 with (first
              | ((with_reducible refine at_load (ty := 35) ?_); refine load_cells rfl 35 (.tmp 3) rfl MM 0 rfl [.string mn, .string mg, .int .i64 r0, .int .i64 r1, .int .i64 r2, .int .i64 r3, .int .i64 r4, .slice ma ML.length mk, .slice mta MT.length mtk, .bool rd] _ Try.underlying35 rfl (by kernel_rfl) (HRm.out _ H0.out) ?_)
                | ((with_reducible refine at_load (ty := 47) ?_); refine load_cells rfl 47 (.tmp 5) rfl PP 0 rfl [.string nm, .int .i64 n0, .int .i64 n1, .int .i64 n2, .int .i64 n3, .int .i64 n4, .slice la L.length lk, .slice sa S.length sk, .slice ta T.length tk, .slice ba B.length bk, .slice pa P.length pk, .slice aa A.length ak, .bool wd, .slice da D.length dk, .int .i64 sw, .int .i64 rk, .string ow, .bool dm, .bool pn, .bool lc] _ Try.underlying47 rfl (by kernel_rfl) (HRq.out _ H0.out) ?_)
                | (go_at_call 12; (with_reducible refine (HLi.out _ (HBl.out _ H0.out)).mono ?_); rintro e w1 ⟨rfl, hb⟩; have HD := Lib.hid (HMo.out _ _ (HPu.out _ _ H0.out) hb); clear H0 hb; have H0 := HD; clear HD)
                | (go_at_call 23; (with_reducible refine (HLp.out _ (HBl.out _ H0.out)).mono ?_); rintro e w1 ⟨rfl, hb⟩; have HD := Lib.hid (HMo.out _ _ H0.out hb); clear H0 hb; have H0 := HD; clear HD)
                | (go_at_call 15; (with_reducible refine (HCk.out _ (HBl.out _ H0.out)).mono ?_); rintro e w1 ⟨rfl, hb⟩; have HD := Lib.hid (HMo.out _ _ (HPu.out _ _ H0.out) hb); clear H0 hb; have H0 := HD; clear HD)
                | (go_at_call 24; (with_reducible refine (HRp.out _ (HBl.out _ H0.out)).mono ?_); rintro e w1 ⟨rfl, hb⟩; have HD := Lib.hid (HMo.out _ _ H0.out hb); clear H0 hb; have H0 := HD; clear HD)
                | (go_at_call 26; (with_reducible refine (HS1.out _ (HBl.out _ H0.out)).mono ?_); rintro e w1 ⟨rfl, hb⟩; have HD := Lib.hid (HMo.out _ _ H0.out hb); clear H0 hb; have H0 := HD; clear HD))
            clear HLi HLp HCk HRp HS1
            go_upto_region 10 with (first
              | ((with_reducible refine at_load (ty := 47) ?_); refine load_cells rfl 47 (.tmp 5) rfl PP 0 rfl [.string nm, .int .i64 n0, .int .i64 n1, .int .i64 n2, .int .i64 n3, .int .i64 n4, .slice la L.length lk, .slice sa S.length sk, .slice ta T.length tk, .slice ba B.length bk, .slice pa P.length pk, .slice aa A.length ak, .bool wd, .slice da D.length dk, .int .i64 sw, .int .i64 rk, .string ow, .bool dm, .bool pn, .bool lc] _ Try.underlying47 rfl (by kernel_rfl) (HRq.out _ H0.out) ?_)
              | ((with_reducible refine at_store (ty := 47) ?_); refine store_new rfl 47 (.tmp 7) (.tmp 47) rfl _ _ rfl rfl (by kernel_rfl) rfl (List.all_eq_true.2 (prow_one (⟨nm, n0, n1, n2, n3, n4, la, lk, L, sa, sk, S, ta, tk, T, ba, bk, B, pa, pk, P, aa, ak, A, wd, da, dk, D, sw, rk, ow, dm, pn, lc⟩ : Pd))) rfl ?_))
            obtain ⟨V1, hV1⟩ : ∃ V, V = w1.alloc (.cells #[.string nm, .int .i64 n0, .int .i64 n1, .int .i64 n2, .int .i64 n3, .int .i64 n4, .slice la L.length lk, .slice sa S.length sk, .slice ta T.length tk, .slice ba B.length bk, .slice pa P.length pk, .slice aa A.length ak, .bool wd, .slice da D.length dk, .int .i64 sw, .int .i64 rk, .string ow, .bool dm, .bool pn, .bool lc] 47) := ⟨_, rfl⟩
            obtain ⟨Y, hY⟩ : ∃ Y, w1.heap.size = Y := ⟨_, rfl⟩
            have HY1 := Lib.hid (show Blk V1 Y 47 [.string nm, .int .i64 n0, .int .i64 n1, .int .i64 n2, .int .i64 n3, .int .i64 n4, .slice la L.length lk, .slice sa S.length sk, .slice ta T.length tk, .slice ba B.length bk, .slice pa P.length pk, .slice aa A.length ak, .bool wd, .slice da D.length dk, .int .i64 sw, .int .i64 rk, .string ow, .bool dm, .bool pn, .bool lc] by rw [hV1, ← hY]; exact Blk.new w1 47 [.string nm, .int .i64 n0, .int .i64 n1, .int .i64 n2, .int .i64 n3, .int .i64 n4, .slice la L.length lk, .slice sa S.length sk, .slice ta T.length tk, .slice ba B.length bk, .slice pa P.length pk, .slice aa A.length ak, .bool wd, .slice da D.length dk, .int .i64 sw, .int .i64 rk, .string ow, .bool dm, .bool pn, .bool lc])
            have hLY : LL < Y := by rw [← hY]; exact HLl.out _ H0.out
            have H1 := Lib.hid (show SS PP LL V1 by rw [hV1]; exact HPu.out _ _ H0.out)
            rw [← hV1, hY]
            clear hV1 hY H0
            have y10 := HY1.out.cell 10
            have g10 := HY1.out.frozen 10
            have hly := HY1.out.lt
            dsimp only [List.getElem?_cons_zero, List.getElem?_cons_succ] at y10
            go_upto_region 11 with (fail)
            obtain ⟨V2, hV2⟩ : ∃ V, V = V1.setCell ⟨Y, 10, none⟩ (.slice none 0 0) := ⟨_, rfl⟩
            have hwY : w.heap.size ≤ Y := by omega
            have H0 := Lib.hid (show SS PP LL V2 by rw [hV2]; exact HSt.out _ _ _ H1.out (by show MM ≠ Y; omega) (by show PP ≠ Y; omega) (by show LL ≠ Y; omega) hwY)
            have HY2 := Lib.hid (show Blk V2 Y 47 [.string nm, .int .i64 n0, .int .i64 n1, .int .i64 n2, .int .i64 n3, .int .i64 n4, .slice la L.length lk, .slice sa S.length sk, .slice ta T.length tk, .slice ba B.length bk, .slice none 0 0, .slice aa A.length ak, .bool wd, .slice da D.length dk, .int .i64 sw, .int .i64 rk, .string ow, .bool dm, .bool pn, .bool lc] by rw [hV2]; exact HY1.out.set 10 _)
            rw [← hV2]
            clear hV2 y10 g10 hly H1 HY1
            obtain ⟨z, hz⟩ : ∃ z, rtB i0 i1 i2 i3 i4 = z := ⟨_, rfl⟩
            have hRz := fun V => refright_any i0 i1 i2 i3 i4 V
            rw [hz] at hRz
            have HRz := Lib.hid hRz
            have HZ := Lib.hid hz
            clear hRz hz
            cases z with
            | false =>
              go_upto_region 14 with (first
                | ((with_reducible refine at_load (ty := 29) ?_); refine load_cells rfl 29 (.tmp 6) rfl LL 0 rfl [.int .i64 i0, .int .i64 i1, .int .i64 i2, .int .i64 i3, .int .i64 i4] _ Try.underlying29 rfl (by kernel_rfl) (HRl.out _ H0.out) ?_)
                | (go_at_call 18; (with_reducible refine (HRz.out _).mono ?_); rintro e w1 ⟨rfl, hb⟩; have HD := Lib.hid (HMo.out _ _ H0.out hb); have HE := Lib.hid (HY2.out.below hb); clear H0 HY2 hb; have H0 := HD; have HY2 := HE; clear HD HE))
              have HY := Lib.hid (show Blk w1 Y 47 [.string nm, .int .i64 (n0), .int .i64 (n1), .int .i64 (n2), .int .i64 1, .int .i64 (n4), .slice la L.length lk, .slice sa S.length sk, .slice ta T.length tk, .slice ba B.length bk, .slice none 0 0, .slice aa A.length ak, .bool wd, .slice da D.length dk, .int .i64 sw, .int .i64 rk, .string ow, .bool dm, .bool pn, .bool lc] by have h9 := HY2.out; rw [Hn3'.out] at h9; exact h9)
              have HSl := Lib.hid (fun V hV => HS2.out V hV n0 n1 n2 n4 ⟨Hnr.out.1.1, Int.le_refl _⟩ ⟨Hnr.out.2.1.1, Int.le_refl _⟩ ⟨Hnr.out.2.2.1.1, Int.le_refl _⟩ ⟨Hnr.out.2.2.2.2.1, Int.le_refl _⟩)
              clear HY2 HS2 HRz HZ Hnr
              go_wp2_with (first
                | ((with_reducible refine at_load (ty := 35) ?_); refine load_cells rfl 35 (.tmp 3) rfl MM 0 rfl [.string mn, .string mg, .int .i64 r0, .int .i64 r1, .int .i64 r2, .int .i64 r3, .int .i64 r4, .slice ma ML.length mk, .slice mta MT.length mtk, .bool rd] _ Try.underlying35 rfl (by kernel_rfl) (HRm.out _ H0.out) ?_)
                | ((with_reducible refine at_load (ty := 47) ?_); refine load_cells rfl 47 (.tmp 7) rfl Y 0 rfl [.string nm, .int .i64 (n0), .int .i64 (n1), .int .i64 (n2), .int .i64 1, .int .i64 (n4), .slice la L.length lk, .slice sa S.length sk, .slice ta T.length tk, .slice ba B.length bk, .slice none 0 0, .slice aa A.length ak, .bool wd, .slice da D.length dk, .int .i64 sw, .int .i64 rk, .string ow, .bool dm, .bool pn, .bool lc] _ Try.underlying47 rfl (by kernel_rfl) (blk_range HY.out) ?_)
                | (go_at_call 26; (with_reducible refine (HSl.out _ (HBl.out _ H0.out)).mono ?_); rintro e w1 ⟨rfl, hb⟩; have HD := Lib.hid (HMo.out _ _ H0.out hb); clear H0 hb; have H0 := HD; clear HD))
              clear HY HSl
              go_loopw [8] (fun vi wr => ∃ k : Nat, k ≤ n ∧ vi = .int .i64 k ∧ SS PP LL wr) (fun vi _ => n - (intOf vi).toNat)
              case atStart => exact ⟨0, Nat.zero_le _, rfl, H0.out⟩
              case round =>
                clear H0
                obtain ⟨k, hk, rfl, hH⟩ := hrel
                have H0 := Lib.hid hH
                clear hH
                by_cases hlt : k < n
                · obtain ⟨b, o, rfl, hb, hc⟩ := (HG.out.mono (HBl.out _ H0.out)) (by rw [Hn.out]; omega)
                  have HGr := Lib.hid (HG.out.mono (HBl.out _ H0.out))
                  have HSk := Lib.hid (fun a kk V hV hr => HS3.out a kk k V hlt hV hr)
                  clear hc
                  have hwz := (HBl.out _ H0.out).size
                  obtain ⟨i0, hi, hz0, hz1, hz2⟩ := info_parts Try.info56
                  have Hi := Lib.hid hi
                  have Hz0 := Lib.hid hz0
                  have Hz1 := Lib.hid hz1
                  have Hz2 := Lib.hid hz2
                  clear hi hz0 hz1 hz2
                  have hownN := World.ownsRow_nil wr wr.heap.size 56 21
                  go_upto_region 21 with (at_builtin; refine wpList_append_src rfl (.tmp 69) (.tmp 72) 23 rfl wr.heap.size 56 i0 _ 21 288 Try.underlying23 Hi.out Hz0.out Hz1.out Hz2.out rfl (by decide) _ 0 [] rfl hownN (some ⟨b, o, none⟩) k kc ((bs.take k).flatMap brow) rfl (by rw [rows_length brow 21 brow_len, List.length_take, Hn.out, Nat.min_eq_left (by omega)]) (RowsAt.news brow_len (rows_take HGr.out k)) (fun e => by cases e) (flat_ones brow_one (bs.take k)) (by unfold maxLen; omega) (by omega) (Nat.le_refl _) ?_; intro v6 w6 hown6 hgrow6; rw [Nat.zero_add, List.nil_append] at hown6; obtain ⟨a6, k6, rfl⟩ := own_sl hown6; have HB6 := Lib.hid (own_below hownN (Below.refl wr.heap.size wr) (Nat.le_refl _) hgrow6); have HO6 := Lib.hid hown6; clear hown6 hgrow6)
                  have HG6 := Lib.hid (HGr.out.mono HB6.out)
                  have hz6 := HB6.out.size
                  have hfl : (bs.take k ++ bs.drop (k + 1)).length = k + (n - (k + 1)) := by rw [List.length_append, List.length_take, List.length_drop, Hn.out, Nat.min_eq_left (by omega)]
                  have hfn : k + (n - (k + 1)) = n - 1 := by omega
                  have Hfl := Lib.hid hfl
                  have Hfn := Lib.hid hfn
                  clear hfl hfn hownN
                  by_cases hkc : kc = k + 1
                  · have hrd : RowsAt brow 21 w6 (some ⟨b, o, none⟩) (bs.drop (k + 1)) := fun h0 => by rw [List.length_drop, Hn.out] at h0; omega
                    have HRd := Lib.hid hrd
                    clear hrd
                    have HKc := Lib.hid hkc
                    clear hkc
                    go_upto_region 22 with (at_builtin; refine wpList_append_src rfl (.tmp 74) (.tmp 78) 23 rfl wr.heap.size 56 i0 _ 21 288 Try.underlying23 Hi.out Hz0.out Hz1.out Hz2.out rfl (by decide) _ k ((bs.take k).flatMap brow) rfl HO6.out (some ⟨b, o, none⟩) (n - (k + 1)) (kc - (k + 1)) ((bs.drop (k + 1)).flatMap brow) (by first | rfl | (dsimp only [Act.eval]; simp [HKc.out]; done) | (have hkc := HKc.out; dsimp only [Act.eval]; simp; omega)) (by rw [rows_length brow 21 brow_len, List.length_drop, Hn.out]) (RowsAt.news brow_len HRd.out) (fun e => by cases e) (flat_ones brow_one (bs.drop (k + 1))) (by unfold maxLen; omega) (by omega) hz6 ?_; intro v7 w7 hown7 hgrow7; have HB7 := Lib.hid (own_below HO6.out HB6.out hz6 hgrow7); rw [← List.flatMap_append, ← Hfl.out] at hown7; obtain ⟨a7, k7, rfl, -, hr7⟩ := IsL.of_own brow_len (by decide) hown7; rw [Hfl.out, Hfn.out]; have HR7 := Lib.hid hr7; clear hown7 hgrow7 hr7)
                    have H7 := Lib.hid (HMo.out _ _ H0.out HB7.out)
                    have HS7 := Lib.hid (HSk.out a7 k7 _ (HBl.out _ H7.out) HR7.out)
                    clear H0 HB6 HB7 HG6 HGr HO6 HSk HR7 hz6 HRd HKc
                    have H0 := H7
                    clear H7
                    go_wp2_with (first
                      | ((with_reducible refine at_load (ty := 35) ?_); refine load_cells rfl 35 (.tmp 3) rfl MM 0 rfl [.string mn, .string mg, .int .i64 r0, .int .i64 r1, .int .i64 r2, .int .i64 r3, .int .i64 r4, .slice ma ML.length mk, .slice mta MT.length mtk, .bool rd] _ Try.underlying35 rfl (by kernel_rfl) (HRm.out _ H0.out) ?_)
                      | ((with_reducible refine at_load (ty := 47) ?_); refine load_cells rfl 47 (.tmp 5) rfl PP 0 rfl [.string nm, .int .i64 n0, .int .i64 n1, .int .i64 n2, .int .i64 n3, .int .i64 n4, .slice la L.length lk, .slice sa S.length sk, .slice ta T.length tk, .slice ba B.length bk, .slice pa P.length pk, .slice aa A.length ak, .bool wd, .slice da D.length dk, .int .i64 sw, .int .i64 rk, .string ow, .bool dm, .bool pn, .bool lc] _ Try.underlying47 rfl (by kernel_rfl) (HRq.out _ H0.out) ?_)
                      | (go_at_call 26; (with_reducible refine (HS7.out).mono ?_); rintro e w1 ⟨rfl, hb⟩; have HD := Lib.hid (HMo.out _ _ H0.out hb); clear H0 hb; have H0 := HD; clear HD))
                    go_roundw
                    case rel => exact ⟨k + 1, by omega, by go_num, H0.out⟩
                    case measure => simp [intOf]; omega
                  · have HRd := Lib.hid (rows_drop HG6.out (k + 1))
                    have HKc := Lib.hid hkc
                    clear hkc
                    go_upto_region 22 with (at_builtin; refine wpList_append_src rfl (.tmp 74) (.tmp 78) 23 rfl wr.heap.size 56 i0 _ 21 288 Try.underlying23 Hi.out Hz0.out Hz1.out Hz2.out rfl (by decide) _ k ((bs.take k).flatMap brow) rfl HO6.out (some ⟨b, o + (k + 1) * 21, none⟩) (n - (k + 1)) (kc - (k + 1)) ((bs.drop (k + 1)).flatMap brow) (by first | rfl | (dsimp only [Act.eval]; simp [HKc.out]; done) | (have hkc := HKc.out; dsimp only [Act.eval]; simp; omega)) (by rw [rows_length brow 21 brow_len, List.length_drop, Hn.out]) (RowsAt.news brow_len HRd.out) (fun e => by cases e) (flat_ones brow_one (bs.drop (k + 1))) (by unfold maxLen; omega) (by omega) hz6 ?_; intro v7 w7 hown7 hgrow7; have HB7 := Lib.hid (own_below HO6.out HB6.out hz6 hgrow7); rw [← List.flatMap_append, ← Hfl.out] at hown7; obtain ⟨a7, k7, rfl, -, hr7⟩ := IsL.of_own brow_len (by decide) hown7; rw [Hfl.out, Hfn.out]; have HR7 := Lib.hid hr7; clear hown7 hgrow7 hr7)
                    have H7 := Lib.hid (HMo.out _ _ H0.out HB7.out)
                    have HS7 := Lib.hid (HSk.out a7 k7 _ (HBl.out _ H7.out) HR7.out)
                    clear H0 HB6 HB7 HG6 HGr HO6 HSk HR7 hz6 HRd HKc
                    have H0 := H7
                    clear H7
                    go_wp2_with (first
                      | ((with_reducible refine at_load (ty := 35) ?_); refine load_cells rfl 35 (.tmp 3) rfl MM 0 rfl [.string mn, .string mg, .int .i64 r0, .int .i64 r1, .int .i64 r2, .int .i64 r3, .int .i64 r4, .slice ma ML.length mk, .slice mta MT.length mtk, .bool rd] _ Try.underlying35 rfl (by kernel_rfl) (HRm.out _ H0.out) ?_)
                      | ((with_reducible refine at_load (ty := 47) ?_); refine load_cells rfl 47 (.tmp 5) rfl PP 0 rfl [.string nm, .int .i64 n0, .int .i64 n1, .int .i64 n2, .int .i64 n3, .int .i64 n4, .slice la L.length lk, .slice sa S.length sk, .slice ta T.length tk, .slice ba B.length bk, .slice pa P.length pk, .slice aa A.length ak, .bool wd, .slice da D.length dk, .int .i64 sw, .int .i64 rk, .string ow, .bool dm, .bool pn, .bool lc] _ Try.underlying47 rfl (by kernel_rfl) (HRq.out _ H0.out) ?_)
                      | (go_at_call 26; (with_reducible refine (HS7.out).mono ?_); rintro e w1 ⟨rfl, hb⟩; have HD := Lib.hid (HMo.out _ _ H0.out hb); clear H0 hb; have H0 := HD; clear HD))
                    go_roundw
                    case rel => exact ⟨k + 1, by omega, by go_num, H0.out⟩
                    case measure => simp [intOf]; omega
                · obtain rfl : n = k := by omega
                  go_wp2_with (go_at_call 25; (with_reducible refine (sknown_any _).mono ?_); rintro e w1 ⟨rfl, hb⟩; have HD := Lib.hid (HMo.out _ _ H0.out hb); clear H0 hb; have H0 := HD; clear HD)
                  go_ret
                  exact ⟨rfl, HBl.out _ H0.out⟩
            | true =>
              obtain ⟨q0, q1, q2, q3, q4, hLs, g0, g1, g2, g4⟩ := least_of (Hnr.out) ((rtB_iff _ _ _ _ _).1 HZ.out)
              have HLs := Lib.hid hLs
              have y1 := HY2.out.cell 1
              clear hLs y1
              go_upto_region 12 with (first
                | ((with_reducible refine at_load (ty := 29) ?_); refine load_cells rfl 29 (.tmp 6) rfl LL 0 rfl [.int .i64 i0, .int .i64 i1, .int .i64 i2, .int .i64 i3, .int .i64 i4] _ Try.underlying29 rfl (by kernel_rfl) (HRl.out _ H0.out) ?_)
                | (go_at_call 18; (with_reducible refine (HRz.out _).mono ?_); rintro e w1 ⟨rfl, hb⟩; have HD := Lib.hid (HMo.out _ _ H0.out hb); have HE := Lib.hid (HY2.out.below hb); clear H0 HY2 hb; have H0 := HD; have HY2 := HE; clear HD HE))
              have HRn := Lib.hid (show ∀ V, SS PP LL V → V.rangeAt PP 1 [.int .i64 n0, .int .i64 n1, .int .i64 n2, .int .i64 n3, .int .i64 n4] from fun V hV j v hj => by
                have hj5 : j < 5 := (List.getElem?_eq_some_iff.1 hj).1
                have h9 := HRq.out V hV (1 + j) v
                rw [Nat.zero_add] at h9
                refine h9 ?_
                match j, hj5, hj with
                | 0, _, hj => exact hj
                | 1, _, hj => exact hj
                | 2, _, hj => exact hj
                | 3, _, hj => exact hj
                | 4, _, hj => exact hj)
              go_upto_region 13 with (first
                | ((with_reducible refine at_load (ty := 29) ?_); refine load_cells rfl 29 (.tmp 6) rfl LL 0 rfl [.int .i64 i0, .int .i64 i1, .int .i64 i2, .int .i64 i3, .int .i64 i4] _ Try.underlying29 rfl (by kernel_rfl) (HRl.out _ H0.out) ?_)
                | ((with_reducible refine at_load (ty := 29) ?_); refine load_cells rfl 29 (.tmp 51) rfl PP 1 rfl [.int .i64 n0, .int .i64 n1, .int .i64 n2, .int .i64 n3, .int .i64 n4] _ Try.underlying29 rfl (by kernel_rfl) (HRn.out _ H0.out) ?_)
                | (go_at_call 27; (with_reducible refine (HLs.out _).mono ?_); rintro e w1 ⟨rfl, hb⟩; have HD := Lib.hid (HMo.out _ _ H0.out hb); have HE := Lib.hid (HY2.out.below hb); clear H0 HY2 hb; have H0 := HD; have HY2 := HE; clear HD HE; have y1 := HY2.out.cell 1; have f1 := HY2.out.frozen 1; have y2 := HY2.out.cell 2; have f2 := HY2.out.frozen 2; have y3 := HY2.out.cell 3; have f3 := HY2.out.frozen 3; have y4 := HY2.out.cell 4; have f4 := HY2.out.frozen 4; have y5 := HY2.out.cell 5; have f5 := HY2.out.frozen 5; have hly := HY2.out.lt; (dsimp only [List.getElem?_cons_zero, List.getElem?_cons_succ] at y1 y2 y3 y4 y5)))
              obtain ⟨V3, hV3⟩ : ∃ V, V = ((((w1.setCell ⟨Y, 1, none⟩ (.int .i64 q0)).setCell ⟨Y, 2, none⟩ (.int .i64 q1)).setCell ⟨Y, 3, none⟩ (.int .i64 q2)).setCell ⟨Y, 4, none⟩ (.int .i64 q3)).setCell ⟨Y, 5, none⟩ (.int .i64 q4) := ⟨_, rfl⟩
              have hst := fun V v i (hV : SS PP LL V) => HSt.out V ⟨Y, i, none⟩ v hV (by show MM ≠ Y; omega) (by show PP ≠ Y; omega) (by show LL ≠ Y; omega) hwY
              have H3 := Lib.hid (show SS PP LL V3 by rw [hV3]; exact hst _ _ _ (hst _ _ _ (hst _ _ _ (hst _ _ _ (hst _ _ _ H0.out)))))
              have HY3 := Lib.hid (show Blk V3 Y 47 [.string nm, .int .i64 q0, .int .i64 q1, .int .i64 q2, .int .i64 q3, .int .i64 q4, .slice la L.length lk, .slice sa S.length sk, .slice ta T.length tk, .slice ba B.length bk, .slice none 0 0, .slice aa A.length ak, .bool wd, .slice da D.length dk, .int .i64 sw, .int .i64 rk, .string ow, .bool dm, .bool pn, .bool lc] by rw [hV3]; exact ((((HY2.out.set 1 _).set 2 _).set 3 _).set 4 _).set 5 _)
              rw [← hV3]
              clear hV3 H0 HY2 y1 y2 y3 y4 y5 f1 f2 f3 f4 f5 hly HRn HLs HRz HZ
              have y4 := HY3.out.cell 4
              have f4 := HY3.out.frozen 4
              have hly := HY3.out.lt
              dsimp only [List.getElem?_cons_zero, List.getElem?_cons_succ] at y4
              go_upto_region 14 with (fail)
              obtain ⟨V4, hV4⟩ : ∃ V, V = V3.setCell ⟨Y, 4, none⟩ (.int .i64 1) := ⟨_, rfl⟩
              have H0 := Lib.hid (show SS PP LL V4 by rw [hV4]; exact hst _ _ _ H3.out)
              have HY := Lib.hid (show Blk V4 Y 47 [.string nm, .int .i64 (q0), .int .i64 (q1), .int .i64 (q2), .int .i64 1, .int .i64 (q4), .slice la L.length lk, .slice sa S.length sk, .slice ta T.length tk, .slice ba B.length bk, .slice none 0 0, .slice aa A.length ak, .bool wd, .slice da D.length dk, .int .i64 sw, .int .i64 rk, .string ow, .bool dm, .bool pn, .bool lc] by rw [hV4]; exact HY3.out.set 4 _)
              have HSl := Lib.hid (fun V hV => HS2.out V hV q0 q1 q2 q4 g0 g1 g2 g4)
              rw [← hV4]
              clear hV4 H3 HY3 y4 f4 hly hst HS2 Hnr g0 g1 g2 g4
              go_wp2_with (first
                | ((with_reducible refine at_load (ty := 35) ?_); refine load_cells rfl 35 (.tmp 3) rfl MM 0 rfl [.string mn, .string mg, .int .i64 r0, .int .i64 r1, .int .i64 r2, .int .i64 r3, .int .i64 r4, .slice ma ML.length mk, .slice mta MT.length mtk, .bool rd] _ Try.underlying35 rfl (by kernel_rfl) (HRm.out _ H0.out) ?_)
                | ((with_reducible refine at_load (ty := 47) ?_); refine load_cells rfl 47 (.tmp 7) rfl Y 0 rfl [.string nm, .int .i64 (q0), .int .i64 (q1), .int .i64 (q2), .int .i64 1, .int .i64 (q4), .slice la L.length lk, .slice sa S.length sk, .slice ta T.length tk, .slice ba B.length bk, .slice none 0 0, .slice aa A.length ak, .bool wd, .slice da D.length dk, .int .i64 sw, .int .i64 rk, .string ow, .bool dm, .bool pn, .bool lc] _ Try.underlying47 rfl (by kernel_rfl) (blk_range HY.out) ?_)
                | (go_at_call 26; (with_reducible refine (HSl.out _ (HBl.out _ H0.out)).mono ?_); rintro e w1 ⟨rfl, hb⟩; have HD := Lib.hid (HMo.out _ _ H0.out hb); clear H0 hb; have H0 := HD; clear HD))
              clear HY HSl
              go_loopw [8] (fun vi wr => ∃ k : Nat, k ≤ n ∧ vi = .int .i64 k ∧ SS PP LL wr) (fun vi _ => n - (intOf vi).toNat)
              case atStart => exact ⟨0, Nat.zero_le _, rfl, H0.out⟩
              case round =>
                clear H0
                obtain ⟨k, hk, rfl, hH⟩ := hrel
                have H0 := Lib.hid hH
                clear hH
                by_cases hlt : k < n
                · obtain ⟨b, o, rfl, hb, hc⟩ := (HG.out.mono (HBl.out _ H0.out)) (by rw [Hn.out]; omega)
                  have HGr := Lib.hid (HG.out.mono (HBl.out _ H0.out))
                  have HSk := Lib.hid (fun a kk V hV hr => HS3.out a kk k V hlt hV hr)
                  clear hc
                  have hwz := (HBl.out _ H0.out).size
                  obtain ⟨i0, hi, hz0, hz1, hz2⟩ := info_parts Try.info56
                  have Hi := Lib.hid hi
                  have Hz0 := Lib.hid hz0
                  have Hz1 := Lib.hid hz1
                  have Hz2 := Lib.hid hz2
                  clear hi hz0 hz1 hz2
                  have hownN := World.ownsRow_nil wr wr.heap.size 56 21
                  go_upto_region 21 with (at_builtin; refine wpList_append_src rfl (.tmp 69) (.tmp 72) 23 rfl wr.heap.size 56 i0 _ 21 288 Try.underlying23 Hi.out Hz0.out Hz1.out Hz2.out rfl (by decide) _ 0 [] rfl hownN (some ⟨b, o, none⟩) k kc ((bs.take k).flatMap brow) rfl (by rw [rows_length brow 21 brow_len, List.length_take, Hn.out, Nat.min_eq_left (by omega)]) (RowsAt.news brow_len (rows_take HGr.out k)) (fun e => by cases e) (flat_ones brow_one (bs.take k)) (by unfold maxLen; omega) (by omega) (Nat.le_refl _) ?_; intro v6 w6 hown6 hgrow6; rw [Nat.zero_add, List.nil_append] at hown6; obtain ⟨a6, k6, rfl⟩ := own_sl hown6; have HB6 := Lib.hid (own_below hownN (Below.refl wr.heap.size wr) (Nat.le_refl _) hgrow6); have HO6 := Lib.hid hown6; clear hown6 hgrow6)
                  have HG6 := Lib.hid (HGr.out.mono HB6.out)
                  have hz6 := HB6.out.size
                  have hfl : (bs.take k ++ bs.drop (k + 1)).length = k + (n - (k + 1)) := by rw [List.length_append, List.length_take, List.length_drop, Hn.out, Nat.min_eq_left (by omega)]
                  have hfn : k + (n - (k + 1)) = n - 1 := by omega
                  have Hfl := Lib.hid hfl
                  have Hfn := Lib.hid hfn
                  clear hfl hfn hownN
                  by_cases hkc : kc = k + 1
                  · have hrd : RowsAt brow 21 w6 (some ⟨b, o, none⟩) (bs.drop (k + 1)) := fun h0 => by rw [List.length_drop, Hn.out] at h0; omega
                    have HRd := Lib.hid hrd
                    clear hrd
                    have HKc := Lib.hid hkc
                    clear hkc
                    go_upto_region 22 with (at_builtin; refine wpList_append_src rfl (.tmp 74) (.tmp 78) 23 rfl wr.heap.size 56 i0 _ 21 288 Try.underlying23 Hi.out Hz0.out Hz1.out Hz2.out rfl (by decide) _ k ((bs.take k).flatMap brow) rfl HO6.out (some ⟨b, o, none⟩) (n - (k + 1)) (kc - (k + 1)) ((bs.drop (k + 1)).flatMap brow) (by first | rfl | (dsimp only [Act.eval]; simp [HKc.out]; done) | (have hkc := HKc.out; dsimp only [Act.eval]; simp; omega)) (by rw [rows_length brow 21 brow_len, List.length_drop, Hn.out]) (RowsAt.news brow_len HRd.out) (fun e => by cases e) (flat_ones brow_one (bs.drop (k + 1))) (by unfold maxLen; omega) (by omega) hz6 ?_; intro v7 w7 hown7 hgrow7; have HB7 := Lib.hid (own_below HO6.out HB6.out hz6 hgrow7); rw [← List.flatMap_append, ← Hfl.out] at hown7; obtain ⟨a7, k7, rfl, -, hr7⟩ := IsL.of_own brow_len (by decide) hown7; rw [Hfl.out, Hfn.out]; have HR7 := Lib.hid hr7; clear hown7 hgrow7 hr7)
                    have H7 := Lib.hid (HMo.out _ _ H0.out HB7.out)
                    have HS7 := Lib.hid (HSk.out a7 k7 _ (HBl.out _ H7.out) HR7.out)
                    clear H0 HB6 HB7 HG6 HGr HO6 HSk HR7 hz6 HRd HKc
                    have H0 := H7
                    clear H7
                    go_wp2_with (first
                      | ((with_reducible refine at_load (ty := 35) ?_); refine load_cells rfl 35 (.tmp 3) rfl MM 0 rfl [.string mn, .string mg, .int .i64 r0, .int .i64 r1, .int .i64 r2, .int .i64 r3, .int .i64 r4, .slice ma ML.length mk, .slice mta MT.length mtk, .bool rd] _ Try.underlying35 rfl (by kernel_rfl) (HRm.out _ H0.out) ?_)
                      | ((with_reducible refine at_load (ty := 47) ?_); refine load_cells rfl 47 (.tmp 5) rfl PP 0 rfl [.string nm, .int .i64 n0, .int .i64 n1, .int .i64 n2, .int .i64 n3, .int .i64 n4, .slice la L.length lk, .slice sa S.length sk, .slice ta T.length tk, .slice ba B.length bk, .slice pa P.length pk, .slice aa A.length ak, .bool wd, .slice da D.length dk, .int .i64 sw, .int .i64 rk, .string ow, .bool dm, .bool pn, .bool lc] _ Try.underlying47 rfl (by kernel_rfl) (HRq.out _ H0.out) ?_)
                      | (go_at_call 26; (with_reducible refine (HS7.out).mono ?_); rintro e w1 ⟨rfl, hb⟩; have HD := Lib.hid (HMo.out _ _ H0.out hb); clear H0 hb; have H0 := HD; clear HD))
                    go_roundw
                    case rel => exact ⟨k + 1, by omega, by go_num, H0.out⟩
                    case measure => simp [intOf]; omega
                  · have HRd := Lib.hid (rows_drop HG6.out (k + 1))
                    have HKc := Lib.hid hkc
                    clear hkc
                    go_upto_region 22 with (at_builtin; refine wpList_append_src rfl (.tmp 74) (.tmp 78) 23 rfl wr.heap.size 56 i0 _ 21 288 Try.underlying23 Hi.out Hz0.out Hz1.out Hz2.out rfl (by decide) _ k ((bs.take k).flatMap brow) rfl HO6.out (some ⟨b, o + (k + 1) * 21, none⟩) (n - (k + 1)) (kc - (k + 1)) ((bs.drop (k + 1)).flatMap brow) (by first | rfl | (dsimp only [Act.eval]; simp [HKc.out]; done) | (have hkc := HKc.out; dsimp only [Act.eval]; simp; omega)) (by rw [rows_length brow 21 brow_len, List.length_drop, Hn.out]) (RowsAt.news brow_len HRd.out) (fun e => by cases e) (flat_ones brow_one (bs.drop (k + 1))) (by unfold maxLen; omega) (by omega) hz6 ?_; intro v7 w7 hown7 hgrow7; have HB7 := Lib.hid (own_below HO6.out HB6.out hz6 hgrow7); rw [← List.flatMap_append, ← Hfl.out] at hown7; obtain ⟨a7, k7, rfl, -, hr7⟩ := IsL.of_own brow_len (by decide) hown7; rw [Hfl.out, Hfn.out]; have HR7 := Lib.hid hr7; clear hown7 hgrow7 hr7)
                    have H7 := Lib.hid (HMo.out _ _ H0.out HB7.out)
                    have HS7 := Lib.hid (HSk.out a7 k7 _ (HBl.out _ H7.out) HR7.out)
                    clear H0 HB6 HB7 HG6 HGr HO6 HSk HR7 hz6 HRd HKc
                    have H0 := H7
                    clear H7
                    go_wp2_with (first
                      | ((with_reducible refine at_load (ty := 35) ?_); refine load_cells rfl 35 (.tmp 3) rfl MM 0 rfl [.string mn, .string mg, .int .i64 r0, .int .i64 r1, .int .i64 r2, .int .i64 r3, .int .i64 r4, .slice ma ML.length mk, .slice mta MT.length mtk, .bool rd] _ Try.underlying35 rfl (by kernel_rfl) (HRm.out _ H0.out) ?_)
                      | ((with_reducible refine at_load (ty := 47) ?_); refine load_cells rfl 47 (.tmp 5) rfl PP 0 rfl [.string nm, .int .i64 n0, .int .i64 n1, .int .i64 n2, .int .i64 n3, .int .i64 n4, .slice la L.length lk, .slice sa S.length sk, .slice ta T.length tk, .slice ba B.length bk, .slice pa P.length pk, .slice aa A.length ak, .bool wd, .slice da D.length dk, .int .i64 sw, .int .i64 rk, .string ow, .bool dm, .bool pn, .bool lc] _ Try.underlying47 rfl (by kernel_rfl) (HRq.out _ H0.out) ?_)
                      | (go_at_call 26; (with_reducible refine (HS7.out).mono ?_); rintro e w1 ⟨rfl, hb⟩; have HD := Lib.hid (HMo.out _ _ H0.out hb); clear H0 hb; have H0 := HD; clear HD))
                    go_roundw
                    case rel => exact ⟨k + 1, by omega, by go_num, H0.out⟩
                    case measure => simp [intOf]; omega
                · obtain rfl : n = k := by omega
                  go_wp2_with (go_at_call 25; (with_reducible refine (sknown_any _).mono ?_); rintro e w1 ⟨rfl, hb⟩; have HD := Lib.hid (HMo.out _ _ H0.out hb); clear H0 hb; have H0 := HD; clear HD)
                  go_ret
                  exact ⟨rfl, HBl.out _ H0.out⟩
          · have q9 : (Sv == 0) = false := by simpa using hs
            clear hS21 hS31
            go_wp2_with (first
              | ((with_reducible refine at_load (ty := 35) ?_); refine load_cells rfl 35 (.tmp 3) rfl MM 0 rfl [.string mn, .string mg, .int .i64 r0, .int .i64 r1, .int .i64 r2, .int .i64 r3, .int .i64 r4, .slice ma ML.length mk, .slice mta MT.length mtk, .bool rd] _ Try.underlying35 rfl (by kernel_rfl) (HRm.out _ H0.out) ?_)
                | ((with_reducible refine at_load (ty := 47) ?_); refine load_cells rfl 47 (.tmp 5) rfl PP 0 rfl [.string nm, .int .i64 n0, .int .i64 n1, .int .i64 n2, .int .i64 n3, .int .i64 n4, .slice la L.length lk, .slice sa S.length sk, .slice ta T.length tk, .slice ba B.length bk, .slice pa P.length pk, .slice aa A.length ak, .bool wd, .slice da D.length dk, .int .i64 sw, .int .i64 rk, .string ow, .bool dm, .bool pn, .bool lc] _ Try.underlying47 rfl (by kernel_rfl) (HRq.out _ H0.out) ?_)
                | (go_at_call 12; (with_reducible refine (HLi.out _ (HBl.out _ H0.out)).mono ?_); rintro e w1 ⟨rfl, hb⟩; have HD := Lib.hid (HMo.out _ _ (HPu.out _ _ H0.out) hb); clear H0 hb; have H0 := HD; clear HD)
                | (go_at_call 23; (with_reducible refine (HLp.out _ (HBl.out _ H0.out)).mono ?_); rintro e w1 ⟨rfl, hb⟩; have HD := Lib.hid (HMo.out _ _ H0.out hb); clear H0 hb; have H0 := HD; clear HD)
                | (go_at_call 15; (with_reducible refine (HCk.out _ (HBl.out _ H0.out)).mono ?_); rintro e w1 ⟨rfl, hb⟩; have HD := Lib.hid (HMo.out _ _ (HPu.out _ _ H0.out) hb); clear H0 hb; have H0 := HD; clear HD)
                | (go_at_call 24; (with_reducible refine (HRp.out _ (HBl.out _ H0.out)).mono ?_); rintro e w1 ⟨rfl, hb⟩; have HD := Lib.hid (HMo.out _ _ H0.out hb); clear H0 hb; have H0 := HD; clear HD)
                | (go_at_call 26; (with_reducible refine (HS1.out _ (HBl.out _ H0.out)).mono ?_); rintro e w1 ⟨rfl, hb⟩; have HD := Lib.hid (HMo.out _ _ H0.out hb); clear H0 hb; have H0 := HD; clear HD)
              | (go_at_call 25; (with_reducible refine (sknown_any _).mono ?_); rintro e w1 ⟨rfl, hb⟩; have HD := Lib.hid (HMo.out _ _ H0.out hb); clear H0 hb; have H0 := HD; clear HD))
            go_ret
            exact ⟨rfl, HBl.out _ H0.out⟩
      · have q0 : (E == 0) = false := by simpa using he
        clear hS21 hS31
        go_wp2_with (first
          | ((with_reducible refine at_load (ty := 35) ?_); refine load_cells rfl 35 (.tmp 3) rfl MM 0 rfl [.string mn, .string mg, .int .i64 r0, .int .i64 r1, .int .i64 r2, .int .i64 r3, .int .i64 r4, .slice ma ML.length mk, .slice mta MT.length mtk, .bool rd] _ Try.underlying35 rfl (by kernel_rfl) (HRm.out _ H0.out) ?_)
            | ((with_reducible refine at_load (ty := 47) ?_); refine load_cells rfl 47 (.tmp 5) rfl PP 0 rfl [.string nm, .int .i64 n0, .int .i64 n1, .int .i64 n2, .int .i64 n3, .int .i64 n4, .slice la L.length lk, .slice sa S.length sk, .slice ta T.length tk, .slice ba B.length bk, .slice pa P.length pk, .slice aa A.length ak, .bool wd, .slice da D.length dk, .int .i64 sw, .int .i64 rk, .string ow, .bool dm, .bool pn, .bool lc] _ Try.underlying47 rfl (by kernel_rfl) (HRq.out _ H0.out) ?_)
            | (go_at_call 12; (with_reducible refine (HLi.out _ (HBl.out _ H0.out)).mono ?_); rintro e w1 ⟨rfl, hb⟩; have HD := Lib.hid (HMo.out _ _ (HPu.out _ _ H0.out) hb); clear H0 hb; have H0 := HD; clear HD)
            | (go_at_call 23; (with_reducible refine (HLp.out _ (HBl.out _ H0.out)).mono ?_); rintro e w1 ⟨rfl, hb⟩; have HD := Lib.hid (HMo.out _ _ H0.out hb); clear H0 hb; have H0 := HD; clear HD)
            | (go_at_call 15; (with_reducible refine (HCk.out _ (HBl.out _ H0.out)).mono ?_); rintro e w1 ⟨rfl, hb⟩; have HD := Lib.hid (HMo.out _ _ (HPu.out _ _ H0.out) hb); clear H0 hb; have H0 := HD; clear HD)
            | (go_at_call 24; (with_reducible refine (HRp.out _ (HBl.out _ H0.out)).mono ?_); rintro e w1 ⟨rfl, hb⟩; have HD := Lib.hid (HMo.out _ _ H0.out hb); clear H0 hb; have H0 := HD; clear HD)
            | (go_at_call 26; (with_reducible refine (HS1.out _ (HBl.out _ H0.out)).mono ?_); rintro e w1 ⟨rfl, hb⟩; have HD := Lib.hid (HMo.out _ _ H0.out hb); clear H0 hb; have H0 := HD; clear HD)
          | (go_at_call 25; (with_reducible refine (sknown_any _).mono ?_); rintro e w1 ⟨rfl, hb⟩; have HD := Lib.hid (HMo.out _ _ H0.out hb); clear H0 hb; have H0 := HD; clear HD))
        go_ret
        exact ⟨rfl, HBl.out _ H0.out⟩
set_option maxRecDepth 100000 in
theorem walk {H : Type} {enc : TypeId × Value → H} {W : World} {base : Nat} {v : Value} {d : DataW H} {q : List MemPlace}
    (hv : Value.okWide Try.prog W .any base 49 v) (h : DataW.Trod enc Try.prog W 0 (fun _ => true) true 49 v d q) :
    Calls Try.prog 6 #[v] W fun e W' => e = .returned (.bool true) ∧ Below W.heap.size W W' := by
  obtain ⟨m, a, l, k, p, i0, i1, i2, i3, i4, rfl, hM, hP, hG, hl, hc, hB⟩ := open_case2 hv h
  exact walk1 m a k l p i0 i1 i2 i3 i4 W hM hP hG hl hc hB

set_option maxRecDepth 100000 in
theorem lifted (os : Os) (started : os.Started) (H : Type) (enc : TypeId × Value → H) :
    ReturnsInHanded {} Try.checked os 6 .any (Rows.suitLessSpec.pre6 enc Try.prog Try.f6 Rows.suitLessRow.domain false) (Rows.suitLessSpec.post enc Try.prog Try.f6 false true false false) := by
  refine returnsInHanded_of_change (C := Try.checked) Try.own started (by kernel_rfl) Try.func6
    (ChangeSpec.witness6 (enc := enc) (C := Try.checked) false ⟨#[], #[.agg #[.string ⟨#[]⟩, .string ⟨#[]⟩, .int .i64 0, .int .i64 0, .int .i64 0, .int .i64 0, .int .i64 0, .slice none 0 0, .slice none 0 0, .bool false, .slice none 0 0, .string ⟨#[]⟩, .int .i64 0, .int .i64 0, .int .i64 0, .int .i64 0, .int .i64 0, .slice none 0 0, .slice none 0 0, .slice none 0 0, .slice none 0 0, .slice none 0 0, .slice none 0 0, .bool false, .slice none 0 0, .int .i64 0, .int .i64 0, .string ⟨#[]⟩, .bool false, .bool false, .bool false, .int .i64 0, .int .i64 0, .int .i64 0, .int .i64 0, .int .i64 0]], []⟩ 8 (by kernel_rfl) (by kernel_rfl) (by kernel_rfl) (by kernel_rfl)) ?_
  intro W base args ds gs before hval hW _ _
  have hW' := hW
  obtain ⟨p, q, hA, hV, rfl, hfz, hnd⟩ := hW
  rw [Try.params6] at hA hval
  obtain ⟨v0, d0, rfl, rfl, h0⟩ := trodAll_one hA
  refine (walk (hval 0 49 v0 rfl rfl) h0).mono fun e W' ⟨he, hb⟩ => ?_
  exact ⟨_, he, law_post Try.laidOut hW' rfl (by kernel_rfl) (by kernel_rfl) Try.underlying4 rfl rfl rfl hb⟩

theorem over : Rows.suitLessRow.holds Try.pinned (OpenSpec.ofChange Rows.suitLessSpec) :=
  OpenClaim.holds_of_wide 6 Try.f6 rfl rfl rfl rfl rfl rfl rfl ⟨rfl, rfl, rfl, rfl, rfl⟩ rfl rfl rfl rfl rfl (by kernel_rfl) Try.func6 (by kernel_rfl)
    (of_decide_eq_true (by kernel_rfl)) (by unfold Func.isWrapper; first | (rw [if_pos (by decide +kernel)]; kernel_rfl) | (rw [if_neg (by decide +kernel)]; exact ⟨rfl, rfl⟩))
    (fun os started H enc _ => lifted os started H enc)

/-- The statement. -/
theorem proved : Rows.SuitLessSaid := over
end suitLess
end Go.Proofs.Ythbpnfpalcgfeaa
