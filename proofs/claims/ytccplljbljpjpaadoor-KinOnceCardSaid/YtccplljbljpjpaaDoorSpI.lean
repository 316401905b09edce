/-
  A pod as text: spec.ShowPod.
-/
import Derived.Test.YtccplljbljpjpaaDoorSpH
import Derived.Test.YtccplljbljpjpaaDoorShD
namespace Go.Proofs.YtccplljbljpjpaaDoor
open Go.RowKit
set_option linter.unusedVariables false
set_option linter.unusedSimpArgs false

theorem rows_old {α : Type} {enc : α → List Value} {K : Nat} {w : World} {a : Option Addr} {l : List α} (h : RowsAt enc K w a l) : l.length = 0 ∨ ∃ b o, a = some ⟨b, o, none⟩ ∧ b < w.heap.size := by
  by_cases h0 : l.length = 0
  · exact .inl h0
  · obtain ⟨b, o, e, hb, -⟩ := h (by omega)
    exact .inr ⟨b, o, e, hb⟩
theorem nup_len (nm : ByteArray) : ∀ (l : List Int), (l.flatMap (nuP nm)).length ≤ l.length
  | [] => Nat.le_refl _
  | n :: l => by
    rw [List.flatMap_cons, List.length_append, List.length_cons]
    have ih := nup_len nm l
    have h9 : (nuP nm n).length ≤ 1 := by
      unfold nuP
      split
      · exact Nat.zero_le _
      · exact Nat.le_refl _
    omega
theorem fm_size (P : List ByteArray) : (fmB P).size ≤ sumL P + P.length + 2 := by
  have h := join_size P
  unfold fmB
  rw [ByteArray.size_append, ByteArray.size_append]
  have h1 : (⟨#[40]⟩ : ByteArray).size = 1 := by decide
  have h2 : (⟨#[41]⟩ : ByteArray).size = 1 := by decide
  omega
theorem fm_le {P : List ByteArray} {c : Nat} (h : ∀ y ∈ P, y.size ≤ 300) (hl : P.length ≤ 50) : (fmB P).size ≤ 20000 := by
  have h1 := fm_size P
  have h2 := sum_le h
  have h3 : P.length * 300 ≤ 50 * 300 := Nat.mul_le_mul_right _ hl
  omega
theorem parts_size {p : Pd} (hl : LtP p) (hr : RtP p) : (joinB (partsP p)).size ≤ 50000000 := by
  have hlab : ∀ (nm : ByteArray) (l : List Lab), nm.size ≤ 300 → lightL l = true → (∀ y ∈ lbP nm l, y.size ≤ 20000) ∧ (lbP nm l).length ≤ 40 := by
    intro nm l hn h
    have h9 := (lightL_iff _).1 h
    refine ⟨fun y hy => ?_, by unfold lbP; rw [List.length_map]; exact h9.1⟩
    unfold lbP at hy
    obtain ⟨x, hx, rfl⟩ := List.mem_map.1 hy
    have hs := h9.2 x hx
    refine fm_le (c := 0) (fun z hz => ?_) (by simp)
    simp only [List.mem_cons, List.not_mem_nil, or_false] at hz
    rcases hz with rfl | rfl | rfl
    · exact hn
    · exact hs.1
    · exact atB_size hs.2
  have hnum : ∀ (nm : ByteArray) (n : Int), nm.size ≤ 300 → 0 ≤ n → n ≤ 100000 → (∀ y ∈ nuP nm n, y.size ≤ 20000) ∧ (nuP nm n).length ≤ 1 := by
    intro nm n hn h0 h1
    unfold nuP
    split
    · exact ⟨fun y hy => absurd hy List.not_mem_nil, Nat.zero_le _⟩
    · refine ⟨fun y hy => ?_, Nat.le_refl _⟩
      obtain rfl := List.mem_singleton.1 hy
      refine fm_le (c := 0) (fun z hz => ?_) (by simp)
      simp only [List.mem_cons, List.not_mem_nil, or_false] at hz
      rcases hz with rfl | rfl
      · exact hn
      · exact Nat.le_trans (itoaB_size n (by omega) (by omega)) (by decide)
  have hfl : ∀ (nm : ByteArray) (b : Bool), nm.size ≤ 300 → (∀ y ∈ flP nm b, y.size ≤ 20000) ∧ (flP nm b).length ≤ 1 := by
    intro nm b hn
    unfold flP
    split
    · refine ⟨fun y hy => ?_, Nat.le_refl _⟩
      obtain rfl := List.mem_singleton.1 hy
      omega
    · exact ⟨fun y hy => absurd hy List.not_mem_nil, Nat.zero_le _⟩
  have hneed : (fmB [⟨#[110, 101, 101, 100]⟩, showM p.n0, showV p.n1, showV p.n2, itoaB p.n4]).size ≤ 20000 := by
    refine fm_le (c := 0) (fun z hz => ?_) (by simp)
    simp only [List.mem_cons, List.not_mem_nil, or_false] at hz
    rcases hz with rfl | rfl | rfl | rfl | rfl
    · decide
    · exact Nat.le_trans (showM_size _) (by decide)
    · exact Nat.le_trans (showV_size _) (by decide)
    · exact Nat.le_trans (showV_size _) (by decide)
    · exact Nat.le_trans (itoaB_size _ (by have := hr.n4; omega) hr.n4.2) (by decide)
  have htm : ∀ y ∈ p.trms.map tmP, y.size ≤ 20000 := by
    intro y hy
    obtain ⟨t, ht, rfl⟩ := List.mem_map.1 hy
    obtain ⟨a1, a2, a3⟩ := Lb.lightTm_ok (hl.tt t ht)
    obtain ⟨jj, -, -, -, hz9⟩ := ops_at (hr.op t ht)
    refine fm_le (c := 0) (fun z hz => ?_) (by rw [List.length_append, List.length_map]; show 3 + _ ≤ _; omega)
    rcases List.mem_append.1 hz with hz | hz
    · simp only [List.mem_cons, List.not_mem_nil, or_false] at hz
      rcases hz with rfl | rfl | rfl
      · decide
      · exact a2
      · omega
    · obtain ⟨v, hv, rfl⟩ := List.mem_map.1 hz
      exact atB_size (a3 v hv)
  have hbe : ∀ y ∈ p.bers.map beP, y.size ≤ 20000 := by
    intro y hy
    obtain ⟨t, ht, rfl⟩ := List.mem_map.1 hy
    have hsh : t.key.size ≤ 300 ∧ t.val.size ≤ 300 := by
      have h9 := hl.bl
      unfold lightB at h9
      rw [Bool.and_eq_true, Bool.and_eq_true] at h9
      exact of_decide_eq_true (List.all_eq_true.1 h9.2.1 t ht)
    obtain ⟨jj, -, -, -, hz9⟩ := eff_at (hr.ef t ht)
    unfold beP
    split
    · refine fm_le (c := 0) (fun z hz => ?_) (by simp)
      simp only [List.mem_cons, List.not_mem_nil, or_false] at hz
      rcases hz with rfl | rfl | rfl
      · decide
      · exact atB_size hsh.1
      · omega
    · refine fm_le (c := 0) (fun z hz => ?_) (by simp)
      simp only [List.mem_cons, List.not_mem_nil, or_false] at hz
      rcases hz with rfl | rfl | rfl | rfl
      · decide
      · exact atB_size hsh.1
      · exact atB_size hsh.2
      · omega
  have hpo : (∀ y ∈ p.prts.flatMap (nuP ⟨#[112, 111, 114, 116]⟩), y.size ≤ 20000) := by
    intro y hy
    obtain ⟨n, hn, hy⟩ := List.mem_flatMap.1 hy
    have := hr.po n hn
    exact (hnum _ n (by decide) (by omega) (by omega)).1 y hy
  have how : (∀ y ∈ owP p.ow, y.size ≤ 20000) ∧ (owP p.ow).length ≤ 1 := by
    unfold owP
    split
    · exact ⟨fun y hy => absurd hy List.not_mem_nil, Nat.zero_le _⟩
    · refine ⟨fun y hy => ?_, Nat.le_refl _⟩
      obtain rfl := List.mem_singleton.1 hy
      refine fm_le (c := 0) (fun z hz => ?_) (by simp)
      simp only [List.mem_cons, List.not_mem_nil, or_false] at hz
      rcases hz with rfl | rfl
      · decide
      · exact hl.ow
  have l0 := hlab ⟨#[108, 97, 98, 101, 108]⟩ p.labs (by decide) hl.l0
  have l1 := hlab ⟨#[115, 101, 108, 101, 99, 116]⟩ p.sels (by decide) hl.l1
  have l2 := hlab ⟨#[97, 112, 97, 114, 116]⟩ p.aprs (by decide) hl.l2
  have l3 := hlab ⟨#[111, 118, 101, 114]⟩ p.spds (by decide) hl.l3
  have n1 := hnum ⟨#[115, 112, 114, 101, 97, 100]⟩ p.sw (by decide) hr.sw.1 (by have := hr.sw; omega)
  have n2 := hnum ⟨#[114, 97, 110, 107]⟩ p.rk (by decide) hr.rk.1 (by have := hr.rk; omega)
  have f1 := hfl ⟨#[119, 105, 100, 101]⟩ p.wd (by decide)
  have f2 := hfl ⟨#[100, 97, 101, 109, 111, 110]⟩ p.dm (by decide)
  have f3 := hfl ⟨#[112, 105, 110, 110, 101, 100]⟩ p.pn (by decide)
  have f4 := hfl ⟨#[108, 111, 99, 97, 108]⟩ p.lc (by decide)
  have hall : ∀ y ∈ partsP p, y.size ≤ 20000 := by
    intro y hy
    unfold partsP at hy
    simp only [List.mem_append] at hy
    rcases hy with hy | hy | hy | hy | hy | hy | hy | hy | hy | hy | hy | hy | hy | hy | hy | hy
    · simp only [List.mem_cons, List.not_mem_nil, or_false] at hy
      rcases hy with rfl | rfl
      · decide
      · exact Nat.le_trans hl.nm (by decide)
    · obtain rfl := List.mem_singleton.1 hy
      exact hneed
    · exact l0.1 y hy
    · exact l1.1 y hy
    · exact l2.1 y hy
    · exact htm y hy
    · exact hbe y hy
    · exact hpo y hy
    · exact n1.1 y hy
    · exact l3.1 y hy
    · exact n2.1 y hy
    · exact how.1 y hy
    · exact f1.1 y hy
    · exact f2.1 y hy
    · exact f3.1 y hy
    · exact f4.1 y hy
  have hlen : (partsP p).length ≤ 1000 := by
    unfold partsP
    simp only [List.length_append, List.length_map, List.length_cons, List.length_nil]
    clear hall htm hbe hpo hneed
    have a1 := hr.tl
    have a2 := hr.bl
    have a3 := hr.pl
    have a4 := nup_len ⟨#[112, 111, 114, 116]⟩ p.prts
    have b0 := l0.2
    have b1 := l1.2
    have b2 := l2.2
    have b3 := l3.2
    have b4 := n1.2
    have b5 := n2.2
    have b6 := f1.2
    have b7 := f2.2
    have b8 := f3.2
    have b9 := f4.2
    have c0 := how.2
    clear l0 l1 l2 l3 n1 n2 f1 f2 f3 f4 how hfl hnum hlab
    generalize (lbP ⟨#[108, 97, 98, 101, 108]⟩ p.labs).length = m0 at b0 ⊢
    generalize (lbP ⟨#[115, 101, 108, 101, 99, 116]⟩ p.sels).length = m1 at b1 ⊢
    generalize (lbP ⟨#[97, 112, 97, 114, 116]⟩ p.aprs).length = m2 at b2 ⊢
    generalize (lbP ⟨#[111, 118, 101, 114]⟩ p.spds).length = m3 at b3 ⊢
    generalize (nuP ⟨#[115, 112, 114, 101, 97, 100]⟩ p.sw).length = m4 at b4 ⊢
    generalize (nuP ⟨#[114, 97, 110, 107]⟩ p.rk).length = m5 at b5 ⊢
    generalize (flP ⟨#[119, 105, 100, 101]⟩ p.wd).length = m6 at b6 ⊢
    generalize (flP ⟨#[100, 97, 101, 109, 111, 110]⟩ p.dm).length = m7 at b7 ⊢
    generalize (flP ⟨#[112, 105, 110, 110, 101, 100]⟩ p.pn).length = m8 at b8 ⊢
    generalize (flP ⟨#[108, 111, 99, 97, 108]⟩ p.lc).length = m9 at b9 ⊢
    generalize (owP p.ow).length = m10 at c0 ⊢
    generalize (p.prts.flatMap (nuP ⟨#[112, 111, 114, 116]⟩)).length = m11 at a4 ⊢
    omega
  clear l0 l1 l2 l3 n1 n2 f1 f2 f3 f4 how hpo hbe htm hneed hfl hnum hlab
  generalize partsP p = X at hall hlen ⊢
  have h1 := join_size X
  have h2 := sum_le hall
  have h3 : X.length * 20000 ≤ 1000 * 20000 := Nat.mul_le_mul_right _ hlen
  exact Nat.le_trans h1 (Nat.le_trans (Nat.add_le_add (Nat.le_trans h2 h3) hlen) (by decide))
set_option maxRecDepth 100000 in
set_option maxHeartbeats 16000000 in
theorem sshowpod_any (p : Pd) (w : World) (hA : PodAt w p) (hL : lightP p = true) (hWT : WT w) (hT : Tab10 w) :
    Calls Tryd.prog 23 #[.agg (prow p).toArray] w fun e w' => e = .returned (.string (showP p)) ∧ Below w.heap.size w w' := by
  have HRt := Lib.hid (fun V (hV : Below w.heap.size w V) => show Calls Tryd.prog 17 #[.agg #[.string (p).nm, .int .i64 (p).n0, .int .i64 (p).n1, .int .i64 (p).n2, .int .i64 (p).n3, .int .i64 (p).n4, .slice (p).la (p).labs.length (p).lk, .slice (p).sa (p).sels.length (p).sk, .slice (p).ta (p).trms.length (p).tk, .slice (p).ba (p).bers.length (p).bk, .slice (p).pa (p).prts.length (p).pk, .slice (p).aa (p).aprs.length (p).ak, .bool (p).wd, .slice (p).da (p).spds.length (p).dk, .int .i64 (p).sw, .int .i64 (p).rk, .string (p).ow, .bool (p).dm, .bool (p).pn, .bool (p).lc]] V fun e w' => e = .returned (.bool (rightP p)) ∧ Below V.heap.size V w' from srightp_any p V (hA.mono hV) hL)
  obtain ⟨W, hW⟩ : ∃ W, W = w.alloc (.cells #[.string (p).nm, .int .i64 (p).n0, .int .i64 (p).n1, .int .i64 (p).n2, .int .i64 (p).n3, .int .i64 (p).n4, .slice (p).la (p).labs.length (p).lk, .slice (p).sa (p).sels.length (p).sk, .slice (p).ta (p).trms.length (p).tk, .slice (p).ba (p).bers.length (p).bk, .slice (p).pa (p).prts.length (p).pk, .slice (p).aa (p).aprs.length (p).ak, .bool (p).wd, .slice (p).da (p).spds.length (p).dk, .int .i64 (p).sw, .int .i64 (p).rk, .string (p).ow, .bool (p).dm, .bool (p).pn, .bool (p).lc] 37) := ⟨_, rfl⟩
  have HX := Lib.hid (show Box w.heap.size (prow p) W by rw [hW]; exact Box.new w (prow p) 37)
  have HB := Lib.hid (show Below w.heap.size w W by rw [hW]; exact (Below.refl _ _).alloc (Nat.le_refl _) _)
  have HRx := Lib.hid (show W.rangeAt w.heap.size 0 [.string (p).nm, .int .i64 (p).n0, .int .i64 (p).n1, .int .i64 (p).n2, .int .i64 (p).n3, .int .i64 (p).n4, .slice (p).la (p).labs.length (p).lk, .slice (p).sa (p).sels.length (p).sk, .slice (p).ta (p).trms.length (p).tk, .slice (p).ba (p).bers.length (p).bk, .slice (p).pa (p).prts.length (p).pk, .slice (p).aa (p).aprs.length (p).ak, .bool (p).wd, .slice (p).da (p).spds.length (p).dk, .int .i64 (p).sw, .int .i64 (p).rk, .string (p).ow, .bool (p).dm, .bool (p).pn, .bool (p).lc] from HX.out.range)
  have hlx := HX.out.lt
  show Calls Tryd.prog 23 #[.agg #[.string (p).nm, .int .i64 (p).n0, .int .i64 (p).n1, .int .i64 (p).n2, .int .i64 (p).n3, .int .i64 (p).n4, .slice (p).la (p).labs.length (p).lk, .slice (p).sa (p).sels.length (p).sk, .slice (p).ta (p).trms.length (p).tk, .slice (p).ba (p).bers.length (p).bk, .slice (p).pa (p).prts.length (p).pk, .slice (p).aa (p).aprs.length (p).ak, .bool (p).wd, .slice (p).da (p).spds.length (p).dk, .int .i64 (p).sw, .int .i64 (p).rk, .string (p).ow, .bool (p).dm, .bool (p).pn, .bool (p).lc]] w _
  cases hr : rightP p with
  | false =>
    rw [show showP p = emp from if_neg (by rw [hr]; exact Bool.false_ne_true)]
    rw [hr] at HRt
    clear hA hL hr hWT hT
    go_enter Tryd.func23, Tryd.ntmps23
    go_upto_region 1 with (fail)
    rw [← hW]
    clear hW
    go_wp2_with (first
      | ((with_reducible refine at_load (ty := 37) ?_); refine load_cells rfl 37 (.tmp 1) rfl w.heap.size 0 rfl [.string (p).nm, .int .i64 (p).n0, .int .i64 (p).n1, .int .i64 (p).n2, .int .i64 (p).n3, .int .i64 (p).n4, .slice (p).la (p).labs.length (p).lk, .slice (p).sa (p).sels.length (p).sk, .slice (p).ta (p).trms.length (p).tk, .slice (p).ba (p).bers.length (p).bk, .slice (p).pa (p).prts.length (p).pk, .slice (p).aa (p).aprs.length (p).ak, .bool (p).wd, .slice (p).da (p).spds.length (p).dk, .int .i64 (p).sw, .int .i64 (p).rk, .string (p).ow, .bool (p).dm, .bool (p).pn, .bool (p).lc] _ Tryd.underlying37 rfl (by kernel_rfl) HRx.out ?_)
      | (go_at_call 17; (with_reducible refine (HRt.out _ HB.out).mono ?_); rintro e w1 ⟨rfl, hb⟩; have HB1 := Lib.hid (HB.out.trans (hb.mono HB.out.size)); clear hb))
    go_ret
    exact ⟨rfl, HB1.out⟩
  | true =>
    have hLt := lightP_iff hL
    have hRp := rtp_of hr
    rw [hr] at HRt
    have HR := Lib.hid (show showP p = fmB (partsP p) from (if_pos hr).trans (show_parts p).symm)
    have HAw := Lib.hid (hA.mono HB.out)
    have HRp := Lib.hid hRp
    have HLt := Lib.hid hLt
    have HTb := Lib.hid (hT.mono HB.out)
    have HWt := Lib.hid (hWT.mono HB.out hWT.sz)
    have hw2 : 2 ≤ W.heap.size := Nat.le_trans hWT.sz HB.out.size
    clear hA hL hr hWT hT
    go_enter Tryd.func23, Tryd.ntmps23
    go_upto_region 1 with (fail)
    rw [← hW]
    clear hW
    go_upto_region 3 with (first
      | ((with_reducible refine at_load (ty := 37) ?_); refine load_cells rfl 37 (.tmp 1) rfl w.heap.size 0 rfl [.string (p).nm, .int .i64 (p).n0, .int .i64 (p).n1, .int .i64 (p).n2, .int .i64 (p).n3, .int .i64 (p).n4, .slice (p).la (p).labs.length (p).lk, .slice (p).sa (p).sels.length (p).sk, .slice (p).ta (p).trms.length (p).tk, .slice (p).ba (p).bers.length (p).bk, .slice (p).pa (p).prts.length (p).pk, .slice (p).aa (p).aprs.length (p).ak, .bool (p).wd, .slice (p).da (p).spds.length (p).dk, .int .i64 (p).sw, .int .i64 (p).rk, .string (p).ow, .bool (p).dm, .bool (p).pn, .bool (p).lc] _ Tryd.underlying37 rfl (by kernel_rfl) HRx.out ?_)
      | (go_at_call 17; (with_reducible refine (HRt.out _ HB.out).mono ?_); rintro e w1 ⟨rfl, hb⟩; have HB1 := Lib.hid hb; have HX1 := Lib.hid (HX.out.mono hb); clear hb))
    have hl1 := HX1.out.lt
    have c0 : w1.cell? ⟨w.heap.size, 0, none⟩ = some (.string p.nm) := HX1.out.cell 0
    have hz1 := HB1.out.size
    clear hlx HRx HRt
    go_upto_region 4 with (go_at_call 36; (refine (newform_any W.heap.size [⟨#[112, 111, 100]⟩, p.nm] _ _ (own_new w1 W.heap.size [⟨#[112, 111, 100]⟩, p.nm] hz1 (by simp)) (by simp; omega)).mono ?_); rintro e w2 ⟨rfl, hf, hb⟩; have HF2 := Lib.hid hf; have HB2 := Lib.hid (HB1.out.trans (((Below.refl W.heap.size w1).alloc hz1 _).trans (hb.mono (by simp; omega)))); clear hf hb)
    clear c0 hl1
    obtain ⟨q, hq⟩ : ∃ q, w1.heap.size + 1 = q := ⟨_, rfl⟩
    have hf := HF2.out
    rw [World.size_alloc, hq] at hf
    rw [hq]
    clear HF2 hq
    have HFw2 := Lib.hid hf
    have HXw2 := Lib.hid (HX.out.mono HB2.out)
    have HBw2 := Lib.hid HB2.out
    clear hf HB2
    -- the need
    have c1 : w2.cell? ⟨w.heap.size, 1, none⟩ = some (.int .i64 p.n0) := HXw2.out.cell 1
    have c2 : w2.cell? ⟨w.heap.size, 2, none⟩ = some (.int .i64 p.n1) := HXw2.out.cell 2
    have c3 : w2.cell? ⟨w.heap.size, 3, none⟩ = some (.int .i64 p.n2) := HXw2.out.cell 3
    have c5 : w2.cell? ⟨w.heap.size, 5, none⟩ = some (.int .i64 p.n4) := HXw2.out.cell 5
    have hlx := HXw2.out.lt
    have HTw := Lib.hid (HTb.out.mono HBw2.out)
    have HS0 := Lib.hid (fun V (hV : Below w2.heap.size w2 V) => showmilli_any p.n0 V (HTw.out.mono hV))
    have HS1 := Lib.hid (fun V (hV : Below w2.heap.size w2 V) => show_any p.n1 V (HTw.out.mono hV))
    have HS2 := Lib.hid (fun V (hV : Below w2.heap.size w2 V) => show_any p.n2 V (HTw.out.mono hV))
    have HS4 := Lib.hid (fun V (hV : Below w2.heap.size w2 V) => show Calls Tryd.prog 40 #[.int .i64 p.n4] V fun e w' => e = .returned (.string (itoaB p.n4)) ∧ Below V.heap.size V w' from itoa_any p.n4 (by have := hRp.n4; omega) hRp.n4.2 V (HTw.out.mono hV))
    have zx0 := showM_size p.n0
    have zx1 := showV_size p.n1
    have zx2 := showV_size p.n2
    have zx4 := itoaB_size p.n4 (by have := hRp.n4; omega) hRp.n4.2
    obtain ⟨x0, hx0⟩ : ∃ t, showM p.n0 = t := ⟨_, rfl⟩
    obtain ⟨x1, hx1⟩ : ∃ t, showV p.n1 = t := ⟨_, rfl⟩
    obtain ⟨x2, hx2⟩ : ∃ t, showV p.n2 = t := ⟨_, rfl⟩
    obtain ⟨x4, hx4⟩ : ∃ t, itoaB p.n4 = t := ⟨_, rfl⟩
    rw [hx0] at HS0 zx0
    rw [hx1] at HS1 zx1
    rw [hx2] at HS2 zx2
    rw [hx4] at HS4 zx4
    have HE0 := Lib.hid hx0
    have HE1 := Lib.hid hx1
    have HE2 := Lib.hid hx2
    have HE4 := Lib.hid hx4
    have HJz := Lib.hid (show (joinB [⟨#[110, 101, 101, 100]⟩, x0, x1, x2, x4]).size ≤ 1000000 from Nat.le_trans (join_size _) (by show (⟨#[110, 101, 101, 100]⟩ : ByteArray).size + (x0.size + (x1.size + (x2.size + (x4.size + 0)))) + 5 ≤ _; have : (⟨#[110, 101, 101, 100]⟩ : ByteArray).size ≤ 10 := (by decide); omega))
    clear hx0 hx1 hx2 hx4 zx0 zx1 zx2 zx4
    have hcH := held_cell
    refine region_rel_tail 18 (by kernel_rfl) (by kernel_rfl) (by kernel_rfl) ?_
    dsimp only [List.take, List.drop]
    repeat
      ((with_reducible refine relStep (fun K hK => ?_))
       (have HK := Lib.hid hK)
       clear hK
       (apply relInl
        · intro r n hf
          have Hf := Lib.hid hf
          clear hf
          (first
            | (fail)
            | (unfold relAt
               go_simp
               (first | (refine relUpon_val ?_ (Below.refl _ _); exact rfl) | exact rfl | (refine relUpon_enter ?_; (first | (go_at_call 38; (with_reducible refine (HS0.out _ n.below).mono ?_); rintro e w9 ⟨rfl, hb⟩; exact ⟨⟨_, rfl, rfl⟩, hb⟩) | (go_at_call 39; (with_reducible first | refine (HS1.out _ n.below).mono ?_ | refine (HS2.out _ n.below).mono ?_); rintro e w9 ⟨rfl, hb⟩; exact ⟨⟨_, rfl, rfl⟩, hb⟩) | (go_at_call 40; (with_reducible refine (HS4.out _ n.below).mono ?_); rintro e w9 ⟨rfl, hb⟩; exact ⟨⟨_, rfl, rfl⟩, hb⟩))))))
        (simp only [Act.put, List.setIfInBounds_toArray, List.set_cons_zero, List.set_cons_succ])
        (with_reducible refine HK.out _ _ ?_)
        clear HK K))
    (with_reducible refine relStep (fun K hK => ?_))
    (have HK := Lib.hid hK)
    clear hK
    refine relInr (IsTx [⟨#[110, 101, 101, 100]⟩, x0, x1, x2, x4] 5) (IsTx.stays _ _) (fun r n hf => ?_) ?_
    · have Hf := Lib.hid hf
      clear hf HK K
      unfold relAt
      (skip)
      go_simp
      ((refine relUpon_val ?_ ?_; exact ⟨_, rfl, by simp, tx_new [⟨#[110, 101, 101, 100]⟩, x0, x1, x2, x4] n.w _⟩; exact (Below.refl _ _).alloc (Nat.le_refl _) _))
    (simp only [Act.put, List.setIfInBounds_toArray, List.set_cons_zero, List.set_cons_succ])
    (with_reducible refine HK.out _ _ ?_)
    clear HK K
    refine relNil ?_
    intro r9 n9 hx9
    clear hcH
    (try simp only [List.nil_append, List.cons_append, List.mem_cons, List.not_mem_nil, or_false, forall_eq_or_imp, forall_eq, false_implies, implies_true] at hx9)
    obtain ⟨w9, hb9⟩ := n9
    (try dsimp only)
    obtain ⟨hc9, hf9⟩ := bcell hb9
    have hz9 := hb9.size
    (try simp at hz9)
    obtain ⟨bb, e9, hbb0, hcc⟩ := hx9
    have hbb : bb < w9.heap.size := hbb0
    (try simp only [Nat.zero_add, Nat.reduceAdd] at e9 ⊢)
    have HR9 := Lib.hid (istx_rows hbb hcc)
    rw [e9]
    have HB9 := Lib.hid hb9
    clear hcc e9 hbb0 hb9 hc9 hf9 hz9
    clear c1 c2 c3 c5 hlx HS0 HS1 HS2 HS4 HTw
    obtain ⟨L1, hL1⟩ : ∃ X, [⟨#[112, 111, 100]⟩, p.nm] ++ [fmB [⟨#[110, 101, 101, 100]⟩, x0, x1, x2, x4]] = X := ⟨_, rfl⟩
    have z1 : L1.length ≤ 3 := by rw [← hL1]; exact Nat.le_refl _
    have HL1 := Lib.hid hL1
    have hbW := HBw2.out.size
    go_upto_region 5 with (go_at_call 37; (refine (add_any W.heap.size q [⟨#[112, 111, 100]⟩, p.nm] [⟨#[110, 101, 101, 100]⟩, x0, x1, x2, x4] (some ⟨bb, 0, none⟩) 5 w9 (HFw2.out.below HB9.out) HR9.out (by simp) (by simp) (by simp) HJz.out (by simp)).mono ?_); rintro e w3 ⟨rfl, hf, hb⟩; have HFw3 := Lib.hid (show FmAt W.heap.size q L1 w3 by rw [← HL1.out]; exact hf); have HBw3 := Lib.hid (HBw2.out.trans ((HB9.out.mono hbW).trans hb)); have HXw3 := Lib.hid (HX.out.mono HBw3.out); clear hf hb)
    clear hL1 HR9 HB9 hbW HFw2 HXw2 HBw2 HJz
    have hA0 := (lightL_iff _).1 hLt.l0
    have hA1 := (lightL_iff _).1 hLt.l1
    have hA2 := (lightL_iff _).1 hLt.l2
    have hA3 := (lightL_iff _).1 hLt.l3
    have HDL2 := Lib.hid HAw.out.labs
    have HDL3 := Lib.hid HAw.out.sels
    have HDL4 := Lib.hid HAw.out.aprs
    have c6 : w3.cell? ⟨w.heap.size, 6, none⟩ = some (.slice p.la p.labs.length p.lk) := HXw3.out.cell 6
    have hlx := HXw3.out.lt
    obtain ⟨L2, hL2⟩ : ∃ X, L1 ++ lbP ⟨#[108, 97, 98, 101, 108]⟩ p.labs = X := ⟨_, rfl⟩
    have zL2 : L2.length ≤ L1.length + 40 := by
      rw [← hL2, List.length_append]
      unfold lbP
      rw [List.length_map]
      have := (hA0).1
      omega
    have HCL2 := Lib.hid (show Calls Tryd.prog 41 #[.pointer (some ⟨q, 0, none⟩), .string ⟨#[108, 97, 98, 101, 108]⟩, .slice p.la p.labs.length p.lk] w3 (FmGives W.heap.size q L2 w3) from by
      rw [← hL2]
      exact slabels_any W.heap.size q L1 ⟨#[108, 97, 98, 101, 108]⟩ _ _ p.labs w3 HFw3.out HBw3.out.size (HDL2.out.mono HBw3.out) (by omega) (hA0).1 (by decide) (hA0).2 (rows_old HDL2.out))
    have HHL2 := Lib.hid hL2
    clear hL2
    go_upto_region 6 with (go_at_call 41; (with_reducible refine HCL2.out.mono ?_); rintro e w4 ⟨rfl, hf, hb⟩; have HFw4 := Lib.hid hf; have HBw4 := Lib.hid (HBw3.out.trans hb); have HXw4 := Lib.hid (HX.out.mono HBw4.out); clear hf hb)
    clear c6 hlx
    have c7 : w4.cell? ⟨w.heap.size, 7, none⟩ = some (.slice p.sa p.sels.length p.sk) := HXw4.out.cell 7
    have hlx := HXw4.out.lt
    obtain ⟨L3, hL3⟩ : ∃ X, L2 ++ lbP ⟨#[115, 101, 108, 101, 99, 116]⟩ p.sels = X := ⟨_, rfl⟩
    have zL3 : L3.length ≤ L2.length + 40 := by
      rw [← hL3, List.length_append]
      unfold lbP
      rw [List.length_map]
      have := (hA1).1
      omega
    have HCL3 := Lib.hid (show Calls Tryd.prog 41 #[.pointer (some ⟨q, 0, none⟩), .string ⟨#[115, 101, 108, 101, 99, 116]⟩, .slice p.sa p.sels.length p.sk] w4 (FmGives W.heap.size q L3 w4) from by
      rw [← hL3]
      exact slabels_any W.heap.size q L2 ⟨#[115, 101, 108, 101, 99, 116]⟩ _ _ p.sels w4 HFw4.out HBw4.out.size (HDL3.out.mono HBw4.out) (by omega) (hA1).1 (by decide) (hA1).2 (rows_old HDL3.out))
    have HHL3 := Lib.hid hL3
    clear hL3
    go_upto_region 7 with (go_at_call 41; (with_reducible refine HCL3.out.mono ?_); rintro e w5 ⟨rfl, hf, hb⟩; have HFw5 := Lib.hid hf; have HBw5 := Lib.hid (HBw4.out.trans hb); have HXw5 := Lib.hid (HX.out.mono HBw5.out); clear hf hb)
    clear c7 hlx
    have c11 : w5.cell? ⟨w.heap.size, 11, none⟩ = some (.slice p.aa p.aprs.length p.ak) := HXw5.out.cell 11
    have hlx := HXw5.out.lt
    obtain ⟨L4, hL4⟩ : ∃ X, L3 ++ lbP ⟨#[97, 112, 97, 114, 116]⟩ p.aprs = X := ⟨_, rfl⟩
    have zL4 : L4.length ≤ L3.length + 40 := by
      rw [← hL4, List.length_append]
      unfold lbP
      rw [List.length_map]
      have := (hA2).1
      omega
    have HCL4 := Lib.hid (show Calls Tryd.prog 41 #[.pointer (some ⟨q, 0, none⟩), .string ⟨#[97, 112, 97, 114, 116]⟩, .slice p.aa p.aprs.length p.ak] w5 (FmGives W.heap.size q L4 w5) from by
      rw [← hL4]
      exact slabels_any W.heap.size q L3 ⟨#[97, 112, 97, 114, 116]⟩ _ _ p.aprs w5 HFw5.out HBw5.out.size (HDL4.out.mono HBw5.out) (by omega) (hA2).1 (by decide) (hA2).2 (rows_old HDL4.out))
    have HHL4 := Lib.hid hL4
    clear hL4
    go_upto_region 8 with (go_at_call 41; (with_reducible refine HCL4.out.mono ?_); rintro e w6 ⟨rfl, hf, hb⟩; have HFw6 := Lib.hid hf; have HBw6 := Lib.hid (HBw5.out.trans hb); have HXw6 := Lib.hid (HX.out.mono HBw6.out); clear hf hb)
    clear c11 hlx HFw3 HFw4 HFw5 HBw3 HBw4 HBw5 HXw3 HXw4 HXw5
    -- the terms
    have c8 : w6.cell? ⟨w.heap.size, 8, none⟩ = some (.slice p.ta p.trms.length p.tk) := HXw6.out.cell 8
    have hlx := HXw6.out.lt
    have htr := HAw.out.trms
    have hzt := hRp.tl
    have hz4 : L4.length ≤ 200 := by omega
    clear zL2 zL3 zL4 z1 HCL2 HCL3 HCL4 HDL2 HDL3 HDL4 hA0 hA1 hA2
    go_upto_region 9 with (fail)
    clear c8 hlx
    obtain ⟨ta, hta⟩ : ∃ x, p.ta = x := ⟨_, rfl⟩
    obtain ⟨nt, hnt⟩ : ∃ x, p.trms.length = x := ⟨_, rfl⟩
    rw [hta] at htr
    rw [hnt] at hzt
    rw [hta, hnt]
    have HTr := Lib.hid htr
    have Hnt := Lib.hid hnt
    clear htr hta hnt
    go_loopw [51] (fun vi wr => ∃ k : Nat, k ≤ nt ∧ vi = .int .i64 k ∧ FmAt W.heap.size q (L4 ++ (p.trms.take k).map tmP) wr ∧ Below W.heap.size W wr) (fun vi _ => nt - (intOf vi).toNat)
    case atStart => exact ⟨0, Nat.zero_le _, rfl, by show FmAt _ q (L4 ++ []) _; rw [List.append_nil]; exact HFw6.out, HBw6.out⟩
    case round =>
      obtain ⟨k, hk, rfl, hF, hB⟩ := hrel
      have HFr := Lib.hid hF
      have HBr := Lib.hid hB
      have hbz := hB.size
      by_cases hlt : k < nt
      · obtain ⟨t, ht⟩ := mem_at (l := p.trms) (k := k) (by rw [Hnt.out]; exact hlt)
        have htm := List.mem_of_getElem? ht
        obtain ⟨b, o, rfl, hb, hc⟩ := (HTr.out.mono hB) (by rw [Hnt.out]; omega)
        have HRq := Lib.hid (show wr.rangeAt b (o + k * 3) [.string t.key, .int .i64 t.op, .slice t.va t.vals.length t.vk] from fun j v hj => by
          have hj3 : j < 3 := (List.getElem?_eq_some_iff.1 hj).1
          rw [hc k t ht j hj3]
          exact hj)
        have hnx : L4 ++ (p.trms.take (k + 1)).map tmP = (L4 ++ (p.trms.take k).map tmP) ++ [tmP t] := by
          rw [List.take_add_one, ht, List.map_append, List.append_assoc]
          rfl
        have hlk : (L4 ++ (p.trms.take k).map tmP).length ≤ 1000 := by rw [List.length_append, List.length_map, List.length_take]; omega
        have HNx := Lib.hid hnx
        obtain ⟨Z, hZ⟩ : ∃ Z, wr.heap.size = Z := ⟨_, rfl⟩
        obtain ⟨v5, hw5⟩ : ∃ V, V = wr.alloc (.cells #[.string t.key, .int .i64 t.op, .slice t.va t.vals.length t.vk] 54) := ⟨_, rfl⟩
        have HZ5 := Lib.hid (show Box Z [.string t.key, .int .i64 t.op, .slice t.va t.vals.length t.vk] v5 by rw [hw5, ← hZ]; exact Box.new wr [.string t.key, .int .i64 t.op, .slice t.va t.vals.length t.vk] 54)
        have hbb2 : Below wr.heap.size wr v5 := by rw [hw5]; exact (Below.refl _ _).alloc (Nat.le_refl _) _
        have HB5 := Lib.hid (hB.trans (hbb2.mono hbz))
        have HTm := Lib.hid (sterm_any W.heap.size q (L4 ++ (p.trms.take k).map tmP) t v5 (HFr.out.below hbb2) ((HAw.out.trmA t htm).mono HB5.out) (HWt.out.mono HB5.out hw2) hlk (HLt.out.tt t htm) (HRp.out.op t htm))
        have HRz := Lib.hid (show v5.rangeAt Z 0 [.string t.key, .int .i64 t.op, .slice t.va t.vals.length t.vk] from HZ5.out.range)
        have hlz := HZ5.out.lt
        have HP1 := Lib.hid (show ∀ u ∈ [Value.string t.key, .int .i64 t.op, .slice t.va t.vals.length t.vk], u.oneCell' = true by
          intro u hu
          simp only [List.mem_cons, List.not_mem_nil, or_false] at hu
          rcases hu with rfl | rfl | rfl <;> rfl)
        clear hF hB hc ht htm hnx hlk hbb2
        go_upto_region 11 with (first
          | ((with_reducible refine at_load (ty := 54) ?_); refine load_cells rfl 54 (.tmp 53) rfl b (o + k * 3) rfl [.string t.key, .int .i64 t.op, .slice t.va t.vals.length t.vk] _ Tryd.underlying54 rfl (by kernel_rfl) HRq.out ?_)
          | ((with_reducible refine at_store (ty := 54) ?_); refine store_new rfl 54 (.tmp 5) (.tmp 54) rfl _ _ (by first | rfl | (show _ = Value.pointer (some ⟨wr.heap.size, 0, none⟩); rw [hZ]; rfl)) rfl (by kernel_rfl) rfl (List.all_eq_true.2 HP1.out) rfl ?_))
        (try rw [hZ])
        rw [← hw5]
        clear hw5 hZ
        go_wp2_with (first
          | ((with_reducible refine at_load (ty := 54) ?_); refine load_cells rfl 54 (.tmp 5) rfl Z 0 rfl [.string t.key, .int .i64 t.op, .slice t.va t.vals.length t.vk] _ Tryd.underlying54 rfl (by kernel_rfl) HRz.out ?_)
          | (go_at_call 42; (with_reducible refine HTm.out.mono ?_); rintro e w7 ⟨rfl, hf, hb⟩; have HF7 := Lib.hid hf; have HB7 := Lib.hid hb; clear hf hb))
        go_roundw
        case rel => exact ⟨k + 1, by omega, by go_num, by rw [HNx.out]; exact HF7.out, HB5.out.trans HB7.out⟩
        case measure => simp [intOf]; omega
      · obtain rfl : k = nt := by omega
        obtain ⟨L5, hL5⟩ : ∃ X, L4 ++ p.trms.map tmP = X := ⟨_, rfl⟩
        have HFw7 := Lib.hid (show FmAt W.heap.size q L5 wr by rw [← hL5]; rw [List.take_of_length_le (by rw [Hnt.out]; exact Nat.le_refl _)] at hF; exact hF)
        have hz5 : L5.length ≤ 300 := by rw [← hL5, List.length_append, List.length_map, Hnt.out]; omega
        have HHL5 := Lib.hid hL5
        have HXw7 := Lib.hid (HX.out.mono hB)
        clear hF hB hL5 HFr HTr Hnt hbz HFw6 HBw6 HXw6
        obtain ⟨w7, hw7⟩ : ∃ V, V = wr := ⟨_, rfl⟩
        rw [← hw7] at HFw7 HXw7 HBr ⊢
        clear hw7
        -- the tolerations
        have c9 : w7.cell? ⟨w.heap.size, 9, none⟩ = some (.slice p.ba p.bers.length p.bk) := HXw7.out.cell 9
        have hlx := HXw7.out.lt
        have hbr := HAw.out.bers
        have hzb := hRp.bl
        go_upto_region 14 with (fail)
        clear c9 hlx hzt hk
        obtain ⟨ba, hba⟩ : ∃ x, p.ba = x := ⟨_, rfl⟩
        obtain ⟨nb, hnb⟩ : ∃ x, p.bers.length = x := ⟨_, rfl⟩
        rw [hba] at hbr
        rw [hnb] at hzb
        rw [hba, hnb]
        have HTr := Lib.hid hbr
        have Hnb := Lib.hid hnb
        clear hbr hba hnb
        go_loopw [62] (fun vi wr => ∃ k : Nat, k ≤ nb ∧ vi = .int .i64 k ∧ FmAt W.heap.size q (L5 ++ (p.bers.take k).map beP) wr ∧ Below W.heap.size W wr) (fun vi _ => nb - (intOf vi).toNat)
        case atStart => exact ⟨0, Nat.zero_le _, rfl, by show FmAt _ q (L5 ++ []) _; rw [List.append_nil]; exact HFw7.out, HBr.out⟩
        case round =>
          clear HBr
          obtain ⟨k, hk, rfl, hF, hB⟩ := hrel
          have HFr := Lib.hid hF
          have HBr := Lib.hid hB
          have hbz := hB.size
          by_cases hlt : k < nb
          · obtain ⟨t, ht⟩ := mem_at (l := p.bers) (k := k) (by rw [Hnb.out]; exact hlt)
            have htm := List.mem_of_getElem? ht
            obtain ⟨b, o, rfl, hb, hc⟩ := (HTr.out.mono hB) (by rw [Hnb.out]; omega)
            have hsh : t.key.size ≤ 300 ∧ t.val.size ≤ 300 := by
              have h9 := HLt.out.bl
              unfold lightB at h9
              rw [Bool.and_eq_true, Bool.and_eq_true] at h9
              exact of_decide_eq_true (List.all_eq_true.1 h9.2.1 t htm)
            have HRq := Lib.hid (show wr.rangeAt b (o + k * 4) [.string t.key, .string t.val, .bool t.any, .int .i64 t.eff] from fun j v hj => by
              have hj4 : j < 4 := (List.getElem?_eq_some_iff.1 hj).1
              rw [hc k t ht j hj4]
              exact hj)
            have hnx : L5 ++ (p.bers.take (k + 1)).map beP = (L5 ++ (p.bers.take k).map beP) ++ [beP t] := by
              rw [List.take_add_one, ht, List.map_append, List.append_assoc]
              rfl
            have hlk : (L5 ++ (p.bers.take k).map beP).length ≤ 1000 := by rw [List.length_append, List.length_map, List.length_take]; omega
            have HNx := Lib.hid hnx
            obtain ⟨Z, hZ⟩ : ∃ Z, wr.heap.size = Z := ⟨_, rfl⟩
            obtain ⟨v5, hw5⟩ : ∃ V, V = wr.alloc (.cells #[.string t.key, .string t.val, .bool t.any, .int .i64 t.eff] 70) := ⟨_, rfl⟩
            have HZ5 := Lib.hid (show Box Z [.string t.key, .string t.val, .bool t.any, .int .i64 t.eff] v5 by rw [hw5, ← hZ]; exact Box.new wr [.string t.key, .string t.val, .bool t.any, .int .i64 t.eff] 70)
            have hbb2 : Below wr.heap.size wr v5 := by rw [hw5]; exact (Below.refl _ _).alloc (Nat.le_refl _) _
            have HB5 := Lib.hid (hB.trans (hbb2.mono hbz))
            have HTm := Lib.hid (stol_any W.heap.size q (L5 ++ (p.bers.take k).map beP) t v5 (HFr.out.below hbb2) (HWt.out.mono HB5.out hw2) hlk hsh.1 hsh.2 (HRp.out.ef t htm))
            have HRz := Lib.hid (show v5.rangeAt Z 0 [.string t.key, .string t.val, .bool t.any, .int .i64 t.eff] from HZ5.out.range)
            have hlz := HZ5.out.lt
            have HP1 := Lib.hid (show ∀ u ∈ [Value.string t.key, .string t.val, .bool t.any, .int .i64 t.eff], u.oneCell' = true by
              intro u hu
              simp only [List.mem_cons, List.not_mem_nil, or_false] at hu
              rcases hu with rfl | rfl | rfl | rfl <;> rfl)
            clear hF hB hc ht htm hnx hlk hbb2 hsh
            go_upto_region 16 with (first
              | ((with_reducible refine at_load (ty := 70) ?_); refine load_cells rfl 70 (.tmp 64) rfl b (o + k * 4) rfl [.string t.key, .string t.val, .bool t.any, .int .i64 t.eff] _ Tryd.underlying70 rfl (by kernel_rfl) HRq.out ?_)
              | ((with_reducible refine at_store (ty := 70) ?_); refine store_new rfl 70 (.tmp 7) (.tmp 65) rfl _ _ (by first | rfl | (show _ = Value.pointer (some ⟨wr.heap.size, 0, none⟩); rw [hZ]; rfl)) rfl (by kernel_rfl) rfl (List.all_eq_true.2 HP1.out) rfl ?_))
            (try rw [hZ])
            rw [← hw5]
            clear hw5 hZ
            go_wp2_with (first
              | ((with_reducible refine at_load (ty := 70) ?_); refine load_cells rfl 70 (.tmp 7) rfl Z 0 rfl [.string t.key, .string t.val, .bool t.any, .int .i64 t.eff] _ Tryd.underlying70 rfl (by kernel_rfl) HRz.out ?_)
              | (go_at_call 43; (with_reducible refine HTm.out.mono ?_); rintro e w8 ⟨rfl, hf, hb⟩; have HF8 := Lib.hid hf; have HB8 := Lib.hid hb; clear hf hb))
            go_roundw
            case rel => exact ⟨k + 1, by omega, by go_num, by rw [HNx.out]; exact HF8.out, HB5.out.trans HB8.out⟩
            case measure => simp [intOf]; omega
          · obtain rfl : k = nb := by omega
            obtain ⟨L6, hL6⟩ : ∃ X, L5 ++ p.bers.map beP = X := ⟨_, rfl⟩
            have HFw8 := Lib.hid (show FmAt W.heap.size q L6 wr by rw [← hL6]; rw [List.take_of_length_le (by rw [Hnb.out]; exact Nat.le_refl _)] at hF; exact hF)
            have hz6 : L6.length ≤ 400 := by rw [← hL6, List.length_append, List.length_map, Hnb.out]; omega
            have HHL6 := Lib.hid hL6
            have HXw8 := Lib.hid (HX.out.mono hB)
            clear hF hB hL6 HFr HTr Hnb hbz HFw7 HXw7
            obtain ⟨w8, hw8⟩ : ∃ V, V = wr := ⟨_, rfl⟩
            rw [← hw8] at HFw8 HXw8 HBr ⊢
            clear hw8
            -- the ports
            have c10 : w8.cell? ⟨w.heap.size, 10, none⟩ = some (.slice p.pa p.prts.length p.pk) := HXw8.out.cell 10
            have hlx := HXw8.out.lt
            have hpr := HAw.out.prts
            have hzp := hRp.pl
            go_upto_region 19 with (fail)
            clear c10 hlx hzb hk
            obtain ⟨pa, hpa⟩ : ∃ x, p.pa = x := ⟨_, rfl⟩
            obtain ⟨np, hnp⟩ : ∃ x, p.prts.length = x := ⟨_, rfl⟩
            rw [hpa] at hpr
            rw [hnp] at hzp
            rw [hpa, hnp]
            have HTr := Lib.hid hpr
            have Hnp := Lib.hid hnp
            clear hpr hpa hnp
            go_loopw [73] (fun vi wr => ∃ k : Nat, k ≤ np ∧ vi = .int .i64 k ∧ FmAt W.heap.size q (L6 ++ (p.prts.take k).flatMap (nuP ⟨#[112, 111, 114, 116]⟩)) wr ∧ Below W.heap.size W wr) (fun vi _ => np - (intOf vi).toNat)
            case atStart => exact ⟨0, Nat.zero_le _, rfl, by show FmAt _ q (L6 ++ []) _; rw [List.append_nil]; exact HFw8.out, HBr.out⟩
            case round =>
              clear HBr
              obtain ⟨k, hk, rfl, hF, hB⟩ := hrel
              have HFr := Lib.hid hF
              have HBr := Lib.hid hB
              by_cases hlt : k < np
              · obtain ⟨t, ht⟩ := mem_at (l := p.prts) (k := k) (by rw [Hnp.out]; exact hlt)
                have htp := HRp.out.po t (List.mem_of_getElem? ht)
                obtain ⟨b, o, rfl, hb, hc⟩ := (HTr.out.mono hB) (by rw [Hnp.out]; omega)
                have c0 : wr.cell? ⟨b, o + k, none⟩ = some (.int .i64 t) := by
                  have h9 := hc k t ht 0 (by decide)
                  rw [Nat.mul_one, Nat.add_zero] at h9
                  exact h9
                have hnx : L6 ++ (p.prts.take (k + 1)).flatMap (nuP ⟨#[112, 111, 114, 116]⟩) = (L6 ++ (p.prts.take k).flatMap (nuP ⟨#[112, 111, 114, 116]⟩)) ++ nuP ⟨#[112, 111, 114, 116]⟩ t := by
                  rw [List.take_add_one, ht, List.flatMap_append, List.append_assoc]
                  simp
                have hfl : ((p.prts.take k).flatMap (nuP ⟨#[112, 111, 114, 116]⟩)).length ≤ k := Nat.le_trans (nup_len _ _) (by rw [List.length_take]; omega)
                have hlk : (L6 ++ (p.prts.take k).flatMap (nuP ⟨#[112, 111, 114, 116]⟩)).length ≤ 10000 := by rw [List.length_append]; omega
                have HNx := Lib.hid hnx
                have HNu := Lib.hid (snumber_any W.heap.size q (L6 ++ (p.prts.take k).flatMap (nuP ⟨#[112, 111, 114, 116]⟩)) ⟨#[112, 111, 114, 116]⟩ t wr HFr.out hlk (by decide) htp.1 (by omega) (HTb.out.mono hB))
                clear hF hB hc ht hnx hfl hlk htp
                go_wp2_with (go_at_call 44; (with_reducible refine HNu.out.mono ?_); rintro e v9 ⟨rfl, hf, hb⟩; have HF9 := Lib.hid hf; have HB9 := Lib.hid hb; clear hf hb)
                go_roundw
                case rel => exact ⟨k + 1, by omega, by go_num, by rw [HNx.out]; exact HF9.out, HBr.out.trans HB9.out⟩
                case measure => simp [intOf]; omega
              · obtain rfl : k = np := by omega
                obtain ⟨L7, hL7⟩ : ∃ X, L6 ++ p.prts.flatMap (nuP ⟨#[112, 111, 114, 116]⟩) = X := ⟨_, rfl⟩
                have HFy1 := Lib.hid (show FmAt W.heap.size q L7 wr by rw [← hL7]; rw [List.take_of_length_le (by rw [Hnp.out]; exact Nat.le_refl _)] at hF; exact hF)
                have hz7 : L7.length ≤ 500 := by rw [← hL7, List.length_append]; have := nup_len ⟨#[112, 111, 114, 116]⟩ p.prts; rw [Hnp.out] at this; omega
                have HHL7 := Lib.hid hL7
                have HXy1 := Lib.hid (HX.out.mono hB)
                clear hF hB hL7 HFr HTr Hnp HFw8 HXw8
                obtain ⟨y1, hy1⟩ : ∃ V, V = wr := ⟨_, rfl⟩
                rw [← hy1] at HFy1 HXy1 HBr ⊢
                clear hy1
                have HBy1 := Lib.hid HBr.out
                have HDL9 := Lib.hid HAw.out.spds
                clear HBr
                -- the rest
                have c14 : y1.cell? ⟨w.heap.size, 14, none⟩ = some (.int .i64 p.sw) := HXy1.out.cell 14
                have hlx := HXy1.out.lt
                obtain ⟨L8, hL8⟩ : ∃ X, L7 ++ nuP ⟨#[115, 112, 114, 101, 97, 100]⟩ p.sw = X := ⟨_, rfl⟩
                have zL8 : L8.length ≤ L7.length + 1 := by
                  rw [← hL8, List.length_append]
                  have h9 : (nuP ⟨#[115, 112, 114, 101, 97, 100]⟩ p.sw).length ≤ 1 := by
                    unfold nuP
                    split
                    · exact Nat.zero_le _
                    · exact Nat.le_refl _
                  omega
                have HCL8 := Lib.hid (show Calls Tryd.prog 44 #[.pointer (some ⟨q, 0, none⟩), .string ⟨#[115, 112, 114, 101, 97, 100]⟩, .int .i64 p.sw] y1 (FmGives W.heap.size q L8 y1) from by
                  rw [← hL8]
                  exact snumber_any W.heap.size q L7 ⟨#[115, 112, 114, 101, 97, 100]⟩ p.sw y1 HFy1.out (by omega) (by decide) hRp.sw.1 (by have := hRp.sw.2; omega) (HTb.out.mono HBy1.out))
                have HHL8 := Lib.hid hL8
                clear hL8
                go_upto_region 24 with (go_at_call 44; (with_reducible refine HCL8.out.mono ?_); rintro e y2 ⟨rfl, hf, hb⟩; have HFy2 := Lib.hid hf; have HBy2 := Lib.hid (HBy1.out.trans hb); have HXy2 := Lib.hid (HX.out.mono HBy2.out); clear hf hb)
                clear c14 hlx
                have c13 : y2.cell? ⟨w.heap.size, 13, none⟩ = some (.slice p.da p.spds.length p.dk) := HXy2.out.cell 13
                have hlx := HXy2.out.lt
                obtain ⟨L9, hL9⟩ : ∃ X, L8 ++ lbP ⟨#[111, 118, 101, 114]⟩ p.spds = X := ⟨_, rfl⟩
                have zL9 : L9.length ≤ L8.length + 40 := by
                  rw [← hL9, List.length_append]
                  unfold lbP
                  rw [List.length_map]
                  have := (hA3).1
                  omega
                have HCL9 := Lib.hid (show Calls Tryd.prog 41 #[.pointer (some ⟨q, 0, none⟩), .string ⟨#[111, 118, 101, 114]⟩, .slice p.da p.spds.length p.dk] y2 (FmGives W.heap.size q L9 y2) from by
                  rw [← hL9]
                  exact slabels_any W.heap.size q L8 ⟨#[111, 118, 101, 114]⟩ _ _ p.spds y2 HFy2.out HBy2.out.size (HDL9.out.mono HBy2.out) (by omega) (hA3).1 (by decide) (hA3).2 (rows_old HDL9.out))
                have HHL9 := Lib.hid hL9
                clear hL9
                go_upto_region 25 with (go_at_call 41; (with_reducible refine HCL9.out.mono ?_); rintro e y3 ⟨rfl, hf, hb⟩; have HFy3 := Lib.hid hf; have HBy3 := Lib.hid (HBy2.out.trans hb); have HXy3 := Lib.hid (HX.out.mono HBy3.out); clear hf hb)
                clear c13 hlx
                have c15 : y3.cell? ⟨w.heap.size, 15, none⟩ = some (.int .i64 p.rk) := HXy3.out.cell 15
                have hlx := HXy3.out.lt
                obtain ⟨La, hLa⟩ : ∃ X, L9 ++ nuP ⟨#[114, 97, 110, 107]⟩ p.rk = X := ⟨_, rfl⟩
                have zLa : La.length ≤ L9.length + 1 := by
                  rw [← hLa, List.length_append]
                  have h9 : (nuP ⟨#[114, 97, 110, 107]⟩ p.rk).length ≤ 1 := by
                    unfold nuP
                    split
                    · exact Nat.zero_le _
                    · exact Nat.le_refl _
                  omega
                have HCLa := Lib.hid (show Calls Tryd.prog 44 #[.pointer (some ⟨q, 0, none⟩), .string ⟨#[114, 97, 110, 107]⟩, .int .i64 p.rk] y3 (FmGives W.heap.size q La y3) from by
                  rw [← hLa]
                  exact snumber_any W.heap.size q L9 ⟨#[114, 97, 110, 107]⟩ p.rk y3 HFy3.out (by omega) (by decide) hRp.rk.1 (by have := hRp.rk.2; omega) (HTb.out.mono HBy3.out))
                have HHLa := Lib.hid hLa
                clear hLa
                go_upto_region 26 with (go_at_call 44; (with_reducible refine HCLa.out.mono ?_); rintro e y4 ⟨rfl, hf, hb⟩; have HFy4 := Lib.hid hf; have HBy4 := Lib.hid (HBy3.out.trans hb); have HXy4 := Lib.hid (HX.out.mono HBy4.out); clear hf hb)
                clear c15 hlx HCL8 HCL9 HCLa HDL9 HFy1 HFy2 HFy3 HBy1 HBy2 HBy3 HXy1 HXy2 HXy3
                have hza : La.length ≤ 600 := by omega
                have c16 : y4.cell? ⟨w.heap.size, 16, none⟩ = some (.string p.ow) := HXy4.out.cell 16
                have hlx := HXy4.out.lt
                by_cases how : p.ow = emp
                · have q1 := (emp_yes how).2.2
                  have HOw := Lib.hid (show owP p.ow = [] from if_pos how)
                  clear how
                  go_upto_region 28 with (fail)
                  clear c16 hlx q1
                  obtain ⟨Lb, hLb⟩ : ∃ X, La ++ flP ⟨#[119, 105, 100, 101]⟩ p.wd = X := ⟨_, rfl⟩
                  have zLb : Lb.length ≤ La.length + 1 := by
                    rw [← hLb, List.length_append]
                    have h9 : (flP ⟨#[119, 105, 100, 101]⟩ p.wd).length ≤ 1 := by
                      unfold flP
                      split
                      · exact Nat.le_refl _
                      · exact Nat.zero_le _
                    omega
                  have HCLb := Lib.hid (show Calls Tryd.prog 45 #[.pointer (some ⟨q, 0, none⟩), .string ⟨#[119, 105, 100, 101]⟩, .bool p.wd] y4 (FmGives W.heap.size q Lb y4) from by
                    rw [← hLb]
                    exact sflag_any W.heap.size q La ⟨#[119, 105, 100, 101]⟩ p.wd y4 HFy4.out (by omega))
                  have HHLb := Lib.hid hLb
                  have bLb : y4.cell? ⟨w.heap.size, 12, none⟩ = some (.bool p.wd) := HXy4.out.cell 12
                  have lLb := HXy4.out.lt
                  clear hLb
                  go_upto_region 29 with (go_at_call 45; (with_reducible refine HCLb.out.mono ?_); rintro e t1 ⟨rfl, hf, hb⟩; have HFt1 := Lib.hid hf; have HBt1 := Lib.hid (HBy4.out.trans hb); have HXt1 := Lib.hid (HX.out.mono HBt1.out); clear hf hb)
                  clear bLb lLb
                  obtain ⟨Lc, hLc⟩ : ∃ X, Lb ++ flP ⟨#[100, 97, 101, 109, 111, 110]⟩ p.dm = X := ⟨_, rfl⟩
                  have zLc : Lc.length ≤ Lb.length + 1 := by
                    rw [← hLc, List.length_append]
                    have h9 : (flP ⟨#[100, 97, 101, 109, 111, 110]⟩ p.dm).length ≤ 1 := by
                      unfold flP
                      split
                      · exact Nat.le_refl _
                      · exact Nat.zero_le _
                    omega
                  have HCLc := Lib.hid (show Calls Tryd.prog 45 #[.pointer (some ⟨q, 0, none⟩), .string ⟨#[100, 97, 101, 109, 111, 110]⟩, .bool p.dm] t1 (FmGives W.heap.size q Lc t1) from by
                    rw [← hLc]
                    exact sflag_any W.heap.size q Lb ⟨#[100, 97, 101, 109, 111, 110]⟩ p.dm t1 HFt1.out (by omega))
                  have HHLc := Lib.hid hLc
                  have bLc : t1.cell? ⟨w.heap.size, 17, none⟩ = some (.bool p.dm) := HXt1.out.cell 17
                  have lLc := HXt1.out.lt
                  clear hLc
                  go_upto_region 30 with (go_at_call 45; (with_reducible refine HCLc.out.mono ?_); rintro e t2 ⟨rfl, hf, hb⟩; have HFt2 := Lib.hid hf; have HBt2 := Lib.hid (HBt1.out.trans hb); have HXt2 := Lib.hid (HX.out.mono HBt2.out); clear hf hb)
                  clear bLc lLc
                  obtain ⟨Ld, hLd⟩ : ∃ X, Lc ++ flP ⟨#[112, 105, 110, 110, 101, 100]⟩ p.pn = X := ⟨_, rfl⟩
                  have zLd : Ld.length ≤ Lc.length + 1 := by
                    rw [← hLd, List.length_append]
                    have h9 : (flP ⟨#[112, 105, 110, 110, 101, 100]⟩ p.pn).length ≤ 1 := by
                      unfold flP
                      split
                      · exact Nat.le_refl _
                      · exact Nat.zero_le _
                    omega
                  have HCLd := Lib.hid (show Calls Tryd.prog 45 #[.pointer (some ⟨q, 0, none⟩), .string ⟨#[112, 105, 110, 110, 101, 100]⟩, .bool p.pn] t2 (FmGives W.heap.size q Ld t2) from by
                    rw [← hLd]
                    exact sflag_any W.heap.size q Lc ⟨#[112, 105, 110, 110, 101, 100]⟩ p.pn t2 HFt2.out (by omega))
                  have HHLd := Lib.hid hLd
                  have bLd : t2.cell? ⟨w.heap.size, 18, none⟩ = some (.bool p.pn) := HXt2.out.cell 18
                  have lLd := HXt2.out.lt
                  clear hLd
                  go_upto_region 31 with (go_at_call 45; (with_reducible refine HCLd.out.mono ?_); rintro e t3 ⟨rfl, hf, hb⟩; have HFt3 := Lib.hid hf; have HBt3 := Lib.hid (HBt2.out.trans hb); have HXt3 := Lib.hid (HX.out.mono HBt3.out); clear hf hb)
                  clear bLd lLd
                  obtain ⟨Le, hLe⟩ : ∃ X, Ld ++ flP ⟨#[108, 111, 99, 97, 108]⟩ p.lc = X := ⟨_, rfl⟩
                  have zLe : Le.length ≤ Ld.length + 1 := by
                    rw [← hLe, List.length_append]
                    have h9 : (flP ⟨#[108, 111, 99, 97, 108]⟩ p.lc).length ≤ 1 := by
                      unfold flP
                      split
                      · exact Nat.le_refl _
                      · exact Nat.zero_le _
                    omega
                  have HCLe := Lib.hid (show Calls Tryd.prog 45 #[.pointer (some ⟨q, 0, none⟩), .string ⟨#[108, 111, 99, 97, 108]⟩, .bool p.lc] t3 (FmGives W.heap.size q Le t3) from by
                    rw [← hLe]
                    exact sflag_any W.heap.size q Ld ⟨#[108, 111, 99, 97, 108]⟩ p.lc t3 HFt3.out (by omega))
                  have HHLe := Lib.hid hLe
                  have bLe : t3.cell? ⟨w.heap.size, 19, none⟩ = some (.bool p.lc) := HXt3.out.cell 19
                  have lLe := HXt3.out.lt
                  clear hLe
                  go_upto_region 32 with (go_at_call 45; (with_reducible refine HCLe.out.mono ?_); rintro e t4 ⟨rfl, hf, hb⟩; have HFt4 := Lib.hid hf; have HBt4 := Lib.hid (HBt3.out.trans hb); have HXt4 := Lib.hid (HX.out.mono HBt4.out); clear hf hb)
                  clear bLe lLe
                  have HLe := Lib.hid (show Le = partsP p by
                    rw [← HHLe.out, ← HHLd.out, ← HHLc.out, ← HHLb.out, (rfl : La = La), ← HHLa.out, ← HHL9.out, ← HHL8.out, ← HHL7.out, ← HHL6.out, ← HHL5.out, ← HHL4.out, ← HHL3.out, ← HHL2.out, ← HL1.out]
                    unfold partsP
                    rw [HE0.out, HE1.out, HE2.out, HE4.out, HOw.out]
                    simp only [List.append_assoc, List.nil_append])
                  have hsz := parts_size HLt.out HRp.out
                  have hpos : 0 < (partsP p).length := by unfold partsP; simp
                  rw [← HLe.out] at hsz hpos
                  have HSt := Lib.hid (sstring_any W.heap.size q Le t4 HFt4.out (by omega) hpos (by omega))
                  clear hsz hpos
                  go_wp2_with (go_at_call 46; (with_reducible refine HSt.out.mono ?_); rintro e t5 ⟨rfl, hb⟩; have HBt5 := Lib.hid (HBt4.out.trans (hb.mono HBt4.out.size)); clear hb)
                  go_ret
                  exact ⟨by rw [HR.out, HLe.out]; first | done | rfl, HB.out.trans (HBt5.out.mono HB.out.size)⟩
                · have q1 := (emp_no how).2.2
                  have HOw := Lib.hid (show owP p.ow = [fmB [⟨#[111, 119, 110, 101, 114]⟩, p.ow]] from if_neg how)
                  have hlo := hLt.ow
                  have HJz := Lib.hid (show (joinB [⟨#[111, 119, 110, 101, 114]⟩, p.ow]).size ≤ 1000000 from Nat.le_trans (join_size _) (by show (⟨#[111, 119, 110, 101, 114]⟩ : ByteArray).size + (p.ow.size + 0) + 2 ≤ _; have : (⟨#[111, 119, 110, 101, 114]⟩ : ByteArray).size ≤ 10 := (by decide); omega))
                  clear how
                  obtain ⟨Lo, hLo⟩ : ∃ X, La ++ [fmB [⟨#[111, 119, 110, 101, 114]⟩, p.ow]] = X := ⟨_, rfl⟩
                  have hzo : Lo.length ≤ 601 := by rw [← hLo, List.length_append]; show La.length + 1 ≤ _; omega
                  have HHLo := Lib.hid hLo
                  clear hLo
                  have hby := HBy4.out.size
                  go_upto_region 28 with (go_at_call 37; (refine (add_any W.heap.size q La [⟨#[111, 119, 110, 101, 114]⟩, p.ow] (some ⟨y4.heap.size, 0, none⟩) 2 _ (HFy4.out.below ((Below.refl _ _).alloc (Nat.le_refl _) _)) (RowsAt.new scs_len y4 [⟨#[111, 119, 110, 101, 114]⟩, p.ow] 9) (by simp) (by simp) (by simp) HJz.out (by omega)).mono ?_); rintro e y5 ⟨rfl, hf, hb⟩; have HFy5 := Lib.hid (show FmAt W.heap.size q Lo y5 by rw [← HHLo.out]; exact hf); have HBy5 := Lib.hid (HBy4.out.trans (((Below.refl W.heap.size y4).alloc hby _).trans hb)); have HXy5 := Lib.hid (HX.out.mono HBy5.out); clear hf hb)
                  clear c16 hlx q1 hby
                  obtain ⟨Lb, hLb⟩ : ∃ X, Lo ++ flP ⟨#[119, 105, 100, 101]⟩ p.wd = X := ⟨_, rfl⟩
                  have zLb : Lb.length ≤ Lo.length + 1 := by
                    rw [← hLb, List.length_append]
                    have h9 : (flP ⟨#[119, 105, 100, 101]⟩ p.wd).length ≤ 1 := by
                      unfold flP
                      split
                      · exact Nat.le_refl _
                      · exact Nat.zero_le _
                    omega
                  have HCLb := Lib.hid (show Calls Tryd.prog 45 #[.pointer (some ⟨q, 0, none⟩), .string ⟨#[119, 105, 100, 101]⟩, .bool p.wd] y5 (FmGives W.heap.size q Lb y5) from by
                    rw [← hLb]
                    exact sflag_any W.heap.size q Lo ⟨#[119, 105, 100, 101]⟩ p.wd y5 HFy5.out (by omega))
                  have HHLb := Lib.hid hLb
                  have bLb : y5.cell? ⟨w.heap.size, 12, none⟩ = some (.bool p.wd) := HXy5.out.cell 12
                  have lLb := HXy5.out.lt
                  clear hLb
                  go_upto_region 29 with (go_at_call 45; (with_reducible refine HCLb.out.mono ?_); rintro e t1 ⟨rfl, hf, hb⟩; have HFt1 := Lib.hid hf; have HBt1 := Lib.hid (HBy5.out.trans hb); have HXt1 := Lib.hid (HX.out.mono HBt1.out); clear hf hb)
                  clear bLb lLb
                  obtain ⟨Lc, hLc⟩ : ∃ X, Lb ++ flP ⟨#[100, 97, 101, 109, 111, 110]⟩ p.dm = X := ⟨_, rfl⟩
                  have zLc : Lc.length ≤ Lb.length + 1 := by
                    rw [← hLc, List.length_append]
                    have h9 : (flP ⟨#[100, 97, 101, 109, 111, 110]⟩ p.dm).length ≤ 1 := by
                      unfold flP
                      split
                      · exact Nat.le_refl _
                      · exact Nat.zero_le _
                    omega
                  have HCLc := Lib.hid (show Calls Tryd.prog 45 #[.pointer (some ⟨q, 0, none⟩), .string ⟨#[100, 97, 101, 109, 111, 110]⟩, .bool p.dm] t1 (FmGives W.heap.size q Lc t1) from by
                    rw [← hLc]
                    exact sflag_any W.heap.size q Lb ⟨#[100, 97, 101, 109, 111, 110]⟩ p.dm t1 HFt1.out (by omega))
                  have HHLc := Lib.hid hLc
                  have bLc : t1.cell? ⟨w.heap.size, 17, none⟩ = some (.bool p.dm) := HXt1.out.cell 17
                  have lLc := HXt1.out.lt
                  clear hLc
                  go_upto_region 30 with (go_at_call 45; (with_reducible refine HCLc.out.mono ?_); rintro e t2 ⟨rfl, hf, hb⟩; have HFt2 := Lib.hid hf; have HBt2 := Lib.hid (HBt1.out.trans hb); have HXt2 := Lib.hid (HX.out.mono HBt2.out); clear hf hb)
                  clear bLc lLc
                  obtain ⟨Ld, hLd⟩ : ∃ X, Lc ++ flP ⟨#[112, 105, 110, 110, 101, 100]⟩ p.pn = X := ⟨_, rfl⟩
                  have zLd : Ld.length ≤ Lc.length + 1 := by
                    rw [← hLd, List.length_append]
                    have h9 : (flP ⟨#[112, 105, 110, 110, 101, 100]⟩ p.pn).length ≤ 1 := by
                      unfold flP
                      split
                      · exact Nat.le_refl _
                      · exact Nat.zero_le _
                    omega
                  have HCLd := Lib.hid (show Calls Tryd.prog 45 #[.pointer (some ⟨q, 0, none⟩), .string ⟨#[112, 105, 110, 110, 101, 100]⟩, .bool p.pn] t2 (FmGives W.heap.size q Ld t2) from by
                    rw [← hLd]
                    exact sflag_any W.heap.size q Lc ⟨#[112, 105, 110, 110, 101, 100]⟩ p.pn t2 HFt2.out (by omega))
                  have HHLd := Lib.hid hLd
                  have bLd : t2.cell? ⟨w.heap.size, 18, none⟩ = some (.bool p.pn) := HXt2.out.cell 18
                  have lLd := HXt2.out.lt
                  clear hLd
                  go_upto_region 31 with (go_at_call 45; (with_reducible refine HCLd.out.mono ?_); rintro e t3 ⟨rfl, hf, hb⟩; have HFt3 := Lib.hid hf; have HBt3 := Lib.hid (HBt2.out.trans hb); have HXt3 := Lib.hid (HX.out.mono HBt3.out); clear hf hb)
                  clear bLd lLd
                  obtain ⟨Le, hLe⟩ : ∃ X, Ld ++ flP ⟨#[108, 111, 99, 97, 108]⟩ p.lc = X := ⟨_, rfl⟩
                  have zLe : Le.length ≤ Ld.length + 1 := by
                    rw [← hLe, List.length_append]
                    have h9 : (flP ⟨#[108, 111, 99, 97, 108]⟩ p.lc).length ≤ 1 := by
                      unfold flP
                      split
                      · exact Nat.le_refl _
                      · exact Nat.zero_le _
                    omega
                  have HCLe := Lib.hid (show Calls Tryd.prog 45 #[.pointer (some ⟨q, 0, none⟩), .string ⟨#[108, 111, 99, 97, 108]⟩, .bool p.lc] t3 (FmGives W.heap.size q Le t3) from by
                    rw [← hLe]
                    exact sflag_any W.heap.size q Ld ⟨#[108, 111, 99, 97, 108]⟩ p.lc t3 HFt3.out (by omega))
                  have HHLe := Lib.hid hLe
                  have bLe : t3.cell? ⟨w.heap.size, 19, none⟩ = some (.bool p.lc) := HXt3.out.cell 19
                  have lLe := HXt3.out.lt
                  clear hLe
                  go_upto_region 32 with (go_at_call 45; (with_reducible refine HCLe.out.mono ?_); rintro e t4 ⟨rfl, hf, hb⟩; have HFt4 := Lib.hid hf; have HBt4 := Lib.hid (HBt3.out.trans hb); have HXt4 := Lib.hid (HX.out.mono HBt4.out); clear hf hb)
                  clear bLe lLe
                  have HLe := Lib.hid (show Le = partsP p by
                    rw [← HHLe.out, ← HHLd.out, ← HHLc.out, ← HHLb.out, HHLo.out.symm, ← HHLa.out, ← HHL9.out, ← HHL8.out, ← HHL7.out, ← HHL6.out, ← HHL5.out, ← HHL4.out, ← HHL3.out, ← HHL2.out, ← HL1.out]
                    unfold partsP
                    rw [HE0.out, HE1.out, HE2.out, HE4.out, HOw.out]
                    simp only [List.append_assoc, List.nil_append])
                  have hsz := parts_size HLt.out HRp.out
                  have hpos : 0 < (partsP p).length := by unfold partsP; simp
                  rw [← HLe.out] at hsz hpos
                  have HSt := Lib.hid (sstring_any W.heap.size q Le t4 HFt4.out (by omega) hpos (by omega))
                  clear hsz hpos
                  go_wp2_with (go_at_call 46; (with_reducible refine HSt.out.mono ?_); rintro e t5 ⟨rfl, hb⟩; have HBt5 := Lib.hid (HBt4.out.trans (hb.mono HBt4.out.size)); clear hb)
                  go_ret
                  exact ⟨by rw [HR.out, HLe.out]; first | done | rfl, HB.out.trans (HBt5.out.mono HB.out.size)⟩
end Go.Proofs.YtccplljbljpjpaaDoor
