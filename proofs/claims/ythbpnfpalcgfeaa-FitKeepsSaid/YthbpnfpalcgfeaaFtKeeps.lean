/-
  FitKeeps: where no pod has a Spread, what is feasible stays so without one of its pods, and with a pod put where it can be.
-/
import Derived.Test.YthbpnfpalcgfeaaFtR
import Derived.Test.YthbpnfpalcgfeaaFtQ
namespace Go.Proofs.Ythbpnfpalcgfeaa
open Go.ChangeShapes Go.WideShapes Go.ChangeAt Go.RowKit
set_option linter.unusedVariables false
set_option linter.unusedSimpArgs false
namespace fitKeeps

theorem rows_take9 {α : Type} {enc : α → List Value} {K : Nat} {w : World} {a : Option Addr} {l : List α} (h : RowsAt enc K w a l) (k : Nat) : RowsAt enc K w a (l.take k) := fun h0 => by
  have hl : 0 < l.length := by rw [List.length_take] at h0; omega
  obtain ⟨b, o, e, hb, hc⟩ := h hl
  exact ⟨b, o, e, hb, fun i x hx r hr => hc i x (by rw [List.getElem?_take] at hx; split at hx; exact hx; cases hx) r hr⟩
theorem rows_drop9 {α : Type} {enc : α → List Value} {K : Nat} {w : World} {b o : Nat} {l : List α} (h : RowsAt enc K w (some ⟨b, o, none⟩) l) (k : Nat) : RowsAt enc K w (some ⟨b, o + k * K, none⟩) (l.drop k) := fun h0 => by
  have hl : 0 < l.length := by rw [List.length_drop] at h0; omega
  obtain ⟨b', o', e, hb, hc⟩ := h hl
  injection e with e
  injection e with e1 e2
  subst e1 e2
  refine ⟨b, _, rfl, hb, fun i x hx r hr => ?_⟩
  rw [List.getElem?_drop] at hx
  rw [← hc (k + i) x hx r hr, Nat.add_mul, ← Nat.add_assoc]
theorem sub_one9 {α : Type} (l : List α) (k : Nat) : (l.take k ++ l.drop (k + 1)).Sublist l := by
  have h1 : (l.take k ++ l.drop (k + 1)).Sublist (l.take k ++ l.drop k) := by
    refine List.Sublist.append (List.Sublist.refl _) ?_
    rw [← List.drop_drop]
    exact List.drop_sublist 1 _
  rwa [List.take_append_drop] at h1
/-- What was put: a yard that is feasible. -/
def IsPut (a : Option Addr) (ms : List Mac) (v : Value) (V : World) : Prop := ∃ (x : Option Addr) (k : Nat) (L : List Bd), v = .slice x L.length k ∧ YA V a ms x L ∧ feasF ms L = true
theorem IsPut.stays (a : Option Addr) (ms : List Mac) : Stays (IsPut a ms) := fun v w w' hb ⟨x, k, L, e, h1, h2⟩ => ⟨x, k, L, e, h1.mono hb, h2⟩
theorem where_mem {ms : List Mac} {bs : List Bd} {p : Pd} {x : ByteArray} (h : x ∈ whereF ms bs p) : ∃ m ∈ ms, m.nm = x := by
  unfold whereF at h
  obtain ⟨m, hm, e⟩ := List.mem_map.1 h
  exact ⟨m, (List.mem_filter.1 hm).1, e⟩
theorem put_feas {w V : World} {a c : Option Addr} {kc : Nat} {ms : List Mac} {bs : List Bd} {p : Pd} {x : ByteArray} (h : SF w a ms c bs p V) (hlp : lightP p = true) (hck : checkY ms bs = 0) (hrp : rightP p = true) (hf : feasF ms bs = true) (hs : ∀ b ∈ bs, b.p.spds.length = 0 ∧ b.p.nm ≠ p.nm) (hx : x ∈ whereF ms bs p) (hb4 : bs.length ≤ 400) :
    Calls Try.prog 40 #[.slice c bs.length kc, .agg (prow p).toArray, .string x] V fun e w' => (∃ v, e = .returned v ∧ IsPut a ms v w') ∧ Below V.heap.size V w' := by
  refine (put_any c kc bs p x V h.ya.bl h.pa hlp (by omega)).mono fun e w' h9 => ?_
  obtain ⟨⟨b, k, p', rfl, h1, h2, h3, h4, h5⟩, hb⟩ := h9
  have hbut : butL bs p.nm = bs := by
    unfold butL
    rw [List.filter_eq_self]
    intro y hy
    unfold notNm
    rw [decide_eq_false (hs y hy).2]
    rfl
  rw [hbut] at h2 ⊢
  obtain ⟨m, hm, hmx⟩ := where_mem hx
  have hya := h.ya.mono hb
  have hne : x ≠ emp := fun e => by
    have h9 := List.all_eq_true.1 (check_zero hck).2.1 m hm
    unfold okM at h9
    rw [Bool.and_eq_true, hmx, decide_eq_true e] at h9
    cases h9.1
  have hpr : rtP p = true ∧ p.n3 = 1 := by
    have h9 := hrp
    unfold rightP at h9
    simp only [Bool.and_eq_true, decide_eq_true_eq] at h9
    exact ⟨h9.1.1.1.1.1.1.1.1.1.1.1.2, h9.1.1.1.1.1.1.1.1.1.1.2⟩
  have hlen : (bs ++ [(⟨p', x⟩ : Bd)]).length = bs.length + 1 := by rw [List.length_append]; rfl
  refine ⟨⟨_, rfl, b, k, bs ++ [⟨p', x⟩], by rw [hlen], ⟨hya.ml, hya.mi, h2, fun y hy => ?_, hya.mm, by rw [hlen]; omega, hya.lm, fun y hy => ?_, fun y hy => ?_⟩, ?_⟩, hb⟩
  · rcases List.mem_append.1 hy with hy | hy
    · exact hya.bi y hy
    · obtain rfl : y = ⟨p', x⟩ := by simpa using hy
      exact h3
  · rcases List.mem_append.1 hy with hy | hy
    · exact hya.lb y hy
    · obtain rfl : y = ⟨p', x⟩ := by simpa using hy
      exact (light_E h1).trans hlp
  · rcases List.mem_append.1 hy with hy | hy
    · exact hya.lo y hy
    · obtain rfl : y = ⟨p', x⟩ := by simpa using hy
      show x.size ≤ 300
      rw [← hmx]
      exact (lightM_iff (hya.lm m hm)).nm
  · rw [feas_alike ms (bs := bs ++ [⟨p, x⟩]) (by rw [List.map_append, List.map_append]; show bs.map bdE ++ [(⟨podE p', x⟩ : Bd)] = bs.map bdE ++ [(⟨podE p, x⟩ : Bd)]; rw [h1])]
    exact feas_more (right_yard hck) hpr hf hs (where_why hx) hne
set_option maxRecDepth 100000 in
set_option maxHeartbeats 8000000 in
theorem walk1 (a : Option Addr) (ka : Nat) (ms : List Mac) (c : Option Addr) (kc : Nat) (bs : List Bd) (p : Pd) (w : World) (hF : MacL w a ms) (hG : BndL w c bs) (hA : ∀ m ∈ ms, MacIn w m) (hB : ∀ b ∈ bs, BndIn w b) (hP : PodAt w p) (hl : ms.length ≤ maxLen) (hl2 : bs.length ≤ maxLen) (hkc : bs.length ≤ kc) :
    Calls Try.prog 10 #[.slice a ms.length ka, .slice c bs.length kc, .agg (prow p).toArray] w fun e w' => e = .returned (.bool true) ∧ Below w.heap.size w w' := by
  obtain ⟨W, hW⟩ : ∃ W, W = (w.alloc (.cells #[.string (p).nm, .int .i64 (p).n0, .int .i64 (p).n1, .int .i64 (p).n2, .int .i64 (p).n3, .int .i64 (p).n4, .slice (p).la (p).labs.length (p).lk, .slice (p).sa (p).sels.length (p).sk, .slice (p).ta (p).trms.length (p).tk, .slice (p).ba (p).bers.length (p).bk, .slice (p).pa (p).prts.length (p).pk, .slice (p).aa (p).aprs.length (p).ak, .bool (p).wd, .slice (p).da (p).spds.length (p).dk, .int .i64 (p).sw, .int .i64 (p).rk, .string (p).ow, .bool (p).dm, .bool (p).pn, .bool (p).lc] 47)) := ⟨_, rfl⟩
  have hX : Box w.heap.size (prow p) W := by rw [hW]; exact (Box.new w (prow p) 47)
  have hbw : Below w.heap.size w W := by rw [hW]; (repeat' (first | with_reducible exact Below.refl _ _ | with_reducible assumption | with_reducible refine Below.drew ?_ | with_reducible refine below_drewN' ?_ _ | with_reducible refine Below.alloc ?_ ?_ _ | with_reducible refine Below.setCell ?_ ?_ _ | with_reducible refine below_step (by assumption) ?_ ?_ | omega | (simp; done) | (simp; omega)))
  have HB := Lib.hid hbw
  have HX := Lib.hid hX
  have HRt := Lib.hid (fun V (hV : Below w.heap.size w V) => fright_any a c ka kc ms bs p V (hF.mono hV) (hG.mono hV) (fun m hm => (hA m hm).mono hV) (fun b hb => (hB b hb).mono hV) (hP.mono hV) hl hl2)
  have HRp := Lib.hid (fun V (h : Box w.heap.size (prow p) V) => show V.rangeAt w.heap.size 0 [.string (p).nm, .int .i64 (p).n0, .int .i64 (p).n1, .int .i64 (p).n2, .int .i64 (p).n3, .int .i64 (p).n4, .slice (p).la (p).labs.length (p).lk, .slice (p).sa (p).sels.length (p).sk, .slice (p).ta (p).trms.length (p).tk, .slice (p).ba (p).bers.length (p).bk, .slice (p).pa (p).prts.length (p).pk, .slice (p).aa (p).aprs.length (p).ak, .bool (p).wd, .slice (p).da (p).spds.length (p).dk, .int .i64 (p).sw, .int .i64 (p).rk, .string (p).ow, .bool (p).dm, .bool (p).pn, .bool (p).lc] from h.range)
  obtain ⟨g, hg⟩ : ∃ g, rightF ms bs p = g := ⟨_, rfl⟩
  rw [hg] at HRt
  obtain ⟨N, hN⟩ : ∃ N, bs.length = N := ⟨_, rfl⟩
  obtain ⟨n, hn⟩ : ∃ n, ms.length = n := ⟨_, rfl⟩
  rw [hn, hN] at HRt ⊢
  have HRt := Lib.hid (show ∀ V, Below w.heap.size w V → Calls Try.prog 34 #[.slice a n ka, .slice c N kc, .agg #[.string (p).nm, .int .i64 (p).n0, .int .i64 (p).n1, .int .i64 (p).n2, .int .i64 (p).n3, .int .i64 (p).n4, .slice (p).la (p).labs.length (p).lk, .slice (p).sa (p).sels.length (p).sk, .slice (p).ta (p).trms.length (p).tk, .slice (p).ba (p).bers.length (p).bk, .slice (p).pa (p).prts.length (p).pk, .slice (p).aa (p).aprs.length (p).ak, .bool (p).wd, .slice (p).da (p).spds.length (p).dk, .int .i64 (p).sw, .int .i64 (p).rk, .string (p).ow, .bool (p).dm, .bool (p).pn, .bool (p).lc]] V fun e w' => e = .returned (.bool g) ∧ Below V.heap.size V w' from HRt.out)
  show Calls Try.prog 10 #[.slice a n ka, .slice c N kc, .agg #[.string (p).nm, .int .i64 (p).n0, .int .i64 (p).n1, .int .i64 (p).n2, .int .i64 (p).n3, .int .i64 (p).n4, .slice (p).la (p).labs.length (p).lk, .slice (p).sa (p).sels.length (p).sk, .slice (p).ta (p).trms.length (p).tk, .slice (p).ba (p).bers.length (p).bk, .slice (p).pa (p).prts.length (p).pk, .slice (p).aa (p).aprs.length (p).ak, .bool (p).wd, .slice (p).da (p).spds.length (p).dk, .int .i64 (p).sw, .int .i64 (p).rk, .string (p).ow, .bool (p).dm, .bool (p).pn, .bool (p).lc]] w _
  cases g with
  | false =>
    clear hkc
    clear hg hX hbw hF hG hA hB hP hl hl2 hN hn
    go_enter Try.func10, Try.ntmps10
    go_upto_region 1 with (fail)
    rw [← hW]
    clear hW
    go_wp2_with (first
      | ((with_reducible refine at_load (ty := 47) ?_); refine load_cells rfl 47 (.tmp 5) rfl w.heap.size 0 rfl [.string (p).nm, .int .i64 (p).n0, .int .i64 (p).n1, .int .i64 (p).n2, .int .i64 (p).n3, .int .i64 (p).n4, .slice (p).la (p).labs.length (p).lk, .slice (p).sa (p).sels.length (p).sk, .slice (p).ta (p).trms.length (p).tk, .slice (p).ba (p).bers.length (p).bk, .slice (p).pa (p).prts.length (p).pk, .slice (p).aa (p).aprs.length (p).ak, .bool (p).wd, .slice (p).da (p).spds.length (p).dk, .int .i64 (p).sw, .int .i64 (p).rk, .string (p).ow, .bool (p).dm, .bool (p).pn, .bool (p).lc] _ Try.underlying47 rfl (by kernel_rfl) (HRp.out _ HX.out) ?_)
      | (go_at_call 34; (with_reducible refine (HRt.out _ HB.out).mono ?_); rintro e w1 ⟨rfl, hb⟩; have HB1 := Lib.hid (HB.out.trans (hb.mono HB.out.size)); clear hb)
      | (go_at_call 35; (with_reducible refine (fknown_any _).mono ?_); rintro e w2 ⟨rfl, hb⟩; have HB2 := Lib.hid (HB1.out.trans (hb.mono HB1.out.size)); clear hb))
    go_ret
    exact ⟨rfl, HB2.out⟩
  | true =>
    obtain ⟨hly, hlp, hck, hrp⟩ := rightF_iff hg
    have H0 := Lib.hid (show SF w a ms c bs p W from ⟨ya_of (hF.mono hbw) (hG.mono hbw) (fun m hm => (hA m hm).mono hbw) (fun b hb => (hB b hb).mono hbw) hly, hX, hP.mono hbw, hbw⟩)
    have hb4 : bs.length ≤ 400 := by have := (lightY_iff hly).2.1; omega
    obtain ⟨fs, hfs⟩ : ∃ f, feasF ms bs = f := ⟨_, rfl⟩
    have HF1 := Lib.hid (show ∀ V, SF w a ms c bs p V → Calls Try.prog 39 #[.slice a n ka, .slice c N kc] V fun e w' => e = .returned (.bool fs) ∧ Below V.heap.size V w' from fun V hV => by
      have h9 := feas_any a c ka kc ms bs V hV.ya
      rw [hn, hN, hfs] at h9
      exact h9)
    rw [hN] at hkc
    cases fs with
    | false =>
      clear hg hX hbw hF hG hA hB hP hl hl2 hN hn hly hlp hck hrp hb4 hfs hkc
      go_enter Try.func10, Try.ntmps10
      go_upto_region 1 with (fail)
      rw [← hW]
      clear hW
      go_wp2_with (first
        | ((with_reducible refine at_load (ty := 47) ?_); refine load_cells rfl 47 (.tmp 5) rfl w.heap.size 0 rfl [.string (p).nm, .int .i64 (p).n0, .int .i64 (p).n1, .int .i64 (p).n2, .int .i64 (p).n3, .int .i64 (p).n4, .slice (p).la (p).labs.length (p).lk, .slice (p).sa (p).sels.length (p).sk, .slice (p).ta (p).trms.length (p).tk, .slice (p).ba (p).bers.length (p).bk, .slice (p).pa (p).prts.length (p).pk, .slice (p).aa (p).aprs.length (p).ak, .bool (p).wd, .slice (p).da (p).spds.length (p).dk, .int .i64 (p).sw, .int .i64 (p).rk, .string (p).ow, .bool (p).dm, .bool (p).pn, .bool (p).lc] _ Try.underlying47 rfl (by kernel_rfl) H0.out.rng ?_)
        | (go_at_call 34; (with_reducible refine (HRt.out _ HB.out).mono ?_); rintro e w1 ⟨rfl, hb⟩; have H1 := Lib.hid (H0.out.mono hb); clear hb)
        | (go_at_call 39; (with_reducible refine (HF1.out _ H1.out).mono ?_); rintro e w2 ⟨rfl, hb⟩; have H2 := Lib.hid (H1.out.mono hb); clear hb)
        | (go_at_call 35; (with_reducible refine (fknown_any _).mono ?_); rintro e w3 ⟨rfl, hb⟩; have H3 := Lib.hid (H2.out.mono hb); clear hb))
      go_ret
      exact ⟨rfl, H3.out.bl⟩
    | true =>
      have HN := Lib.hid hN
      have Hn := Lib.hid hn
      have HWh := Lib.hid (show ∀ V, SF w a ms c bs p V → Calls Try.prog 37 #[.slice a n ka, .slice c N kc, .agg #[.string (p).nm, .int .i64 (p).n0, .int .i64 (p).n1, .int .i64 (p).n2, .int .i64 (p).n3, .int .i64 (p).n4, .slice (p).la (p).labs.length (p).lk, .slice (p).sa (p).sels.length (p).sk, .slice (p).ta (p).trms.length (p).tk, .slice (p).ba (p).bers.length (p).bk, .slice (p).pa (p).prts.length (p).pk, .slice (p).aa (p).aprs.length (p).ak, .bool (p).wd, .slice (p).da (p).spds.length (p).dk, .int .i64 (p).sw, .int .i64 (p).rk, .string (p).ow, .bool (p).dm, .bool (p).pn, .bool (p).lc]] V (GivesT V (whereF ms bs p)) from fun V hV => by
        have h9 := where_any a c ka kc ms bs p V hV.ya hV.pa hlp
        rw [hn, hN] at h9
        exact h9)
      have HPt := Lib.hid (show (∀ b ∈ bs, b.p.spds.length = 0 ∧ b.p.nm ≠ p.nm) → ∀ V, SF w a ms c bs p V → ∀ x ∈ whereF ms bs p, Calls Try.prog 40 #[.slice c N kc, .agg #[.string (p).nm, .int .i64 (p).n0, .int .i64 (p).n1, .int .i64 (p).n2, .int .i64 (p).n3, .int .i64 (p).n4, .slice (p).la (p).labs.length (p).lk, .slice (p).sa (p).sels.length (p).sk, .slice (p).ta (p).trms.length (p).tk, .slice (p).ba (p).bers.length (p).bk, .slice (p).pa (p).prts.length (p).pk, .slice (p).aa (p).aprs.length (p).ak, .bool (p).wd, .slice (p).da (p).spds.length (p).dk, .int .i64 (p).sw, .int .i64 (p).rk, .string (p).ow, .bool (p).dm, .bool (p).pn, .bool (p).lc], .string x] V fun e w' => (∃ v, e = .returned v ∧ IsPut a ms v w') ∧ Below V.heap.size V w' from fun hs V hV x hx => by
        have h9 := put_feas (kc := kc) hV hlp hck hrp hfs hs hx hb4
        rw [hN] at h9
        exact h9)
      have HFw := Lib.hid (show ∀ V x k (L : List Bd), YA V a ms x L → feasF ms L = true → Calls Try.prog 39 #[.slice a n ka, .slice x L.length k] V fun e w' => e = .returned (.bool true) ∧ Below V.heap.size V w' from fun V x k L hY hL => by
        have h9 := feas_any a x ka k ms L V hY
        rw [hn, hL] at h9
        exact h9)
      have HFe0 := Lib.hid (show (∀ b ∈ bs, b.p.spds.length = 0 ∧ b.p.nm ≠ p.nm) → ∀ V x k (L : List Bd), SF w a ms c bs p V → BndL V x L → L.Sublist bs → Calls Try.prog 39 #[.slice a n ka, .slice x L.length k] V fun e w' => e = .returned (.bool true) ∧ Below V.heap.size V w' from fun hs V x k L hV hL hsub =>
        HFw.out V x k L ⟨hV.ya.ml, hV.ya.mi, hL, fun b hb => hV.ya.bi b (hsub.subset hb), hV.ya.mm, Nat.le_trans hsub.length_le hV.ya.bb, hV.ya.lm, fun b hb => hV.ya.lb b (hsub.subset hb), fun b hb => hV.ya.lo b (hsub.subset hb)⟩ (feas_fewer (right_yard hck) hfs (fun b hb => (hs b hb).1) hsub))
      have hzl := where_len ms bs p
      have hnb := H0.out.ya.mm
      rw [hn] at hzl hnb
      rw [hN] at hb4
      clear hg hX hbw hF hG hA hB hP hl hl2 hN hn hly hlp hck hrp hfs
      go_enter Try.func10, Try.ntmps10
      go_upto_region 1 with (fail)
      rw [← hW]
      clear hW
      go_upto_region 3 with (first
        | ((with_reducible refine at_load (ty := 47) ?_); refine load_cells rfl 47 (.tmp 5) rfl w.heap.size 0 rfl [.string (p).nm, .int .i64 (p).n0, .int .i64 (p).n1, .int .i64 (p).n2, .int .i64 (p).n3, .int .i64 (p).n4, .slice (p).la (p).labs.length (p).lk, .slice (p).sa (p).sels.length (p).sk, .slice (p).ta (p).trms.length (p).tk, .slice (p).ba (p).bers.length (p).bk, .slice (p).pa (p).prts.length (p).pk, .slice (p).aa (p).aprs.length (p).ak, .bool (p).wd, .slice (p).da (p).spds.length (p).dk, .int .i64 (p).sw, .int .i64 (p).rk, .string (p).ow, .bool (p).dm, .bool (p).pn, .bool (p).lc] _ Try.underlying47 rfl (by kernel_rfl) H0.out.rng ?_)
        | (go_at_call 34; (with_reducible refine (HRt.out _ HB.out).mono ?_); rintro e w1 ⟨rfl, hb⟩; have H1 := Lib.hid (H0.out.mono hb); clear hb)
        | (go_at_call 39; (with_reducible refine (HF1.out _ H1.out).mono ?_); rintro e w2 ⟨rfl, hb⟩; have H2 := Lib.hid (H1.out.mono hb); clear hb))
      obtain ⟨V, hV⟩ : ∃ V, V = w2 := ⟨_, rfl⟩
      rw [← hV] at H2 ⊢
      clear hV H0 H1 HB HX HRp HRt HF1
      go_wp2
      go_loopw [7] (fun vi wr => ∃ k : Nat, k ≤ N ∧ vi = .int .i64 k ∧ (∀ b ∈ bs.take k, b.p.spds.length = 0 ∧ b.p.nm ≠ p.nm) ∧ Below V.heap.size V wr) (fun vi _ => N - (intOf vi).toNat)
      case atStart => exact ⟨0, Nat.zero_le _, rfl, (fun b hb => by cases hb), Below.refl _ _⟩
      case round =>
        obtain ⟨k, hk, rfl, hS, hB⟩ := hrel
        have HS := Lib.hid hS
        have HB := Lib.hid hB
        have H4 := Lib.hid (H2.out.mono hB)
        by_cases hlt : k < N
        · obtain ⟨b, hbk⟩ := mem_at (l := bs) (k := k) (by rw [HN.out]; exact hlt)
          obtain ⟨q, o, rfl, hq, hc⟩ := H4.out.ya.bl (by rw [HN.out]; omega)
          have c0 : wr.cell? ⟨q, o + k * 21, none⟩ = some (.string b.p.nm) := hc k b hbk 0 (by decide)
          have c13 : wr.cell? ⟨q, o + k * 21 + 13, none⟩ = some (.slice b.p.da b.p.spds.length b.p.dk) := hc k b hbk 13 (by decide)
          have d0 : wr.cell? ⟨w.heap.size, 0, none⟩ = some (.string p.nm) := H4.out.bx.cell 0
          have hlx := H4.out.bx.lt
          have HNx := Lib.hid (show (b.p.spds.length = 0 ∧ b.p.nm ≠ p.nm) → ∀ x ∈ bs.take (k + 1), x.p.spds.length = 0 ∧ x.p.nm ≠ p.nm from fun h x hx => by
            rw [List.take_add_one, hbk] at hx
            rcases List.mem_append.1 hx with hx | hx
            · exact hS x hx
            · obtain rfl : x = b := by simpa using hx
              exact h)
          obtain ⟨nm, hnm⟩ : ∃ nm, b.p.nm = nm := ⟨_, rfl⟩
          obtain ⟨sl, hsl⟩ : ∃ sl, b.p.spds.length = sl := ⟨_, rfl⟩
          rw [hnm] at c0
          rw [hsl] at c13
          rw [hnm, hsl] at HNx
          clear hc hbk hS hB hnm hsl
          by_cases hs0 : sl = 0
          · subst hs0
            by_cases he : nm = p.nm
            · have q1 := str_yes he
              clear he HNx
              go_upto_region 6 with (fail)
              have hcH := held_cell
              refine region_rel (by kernel_rfl) (by kernel_rfl) ?_
              repeat
                ((with_reducible refine relStep (fun K hK => ?_))
                 (have HK := Lib.hid hK)
                 clear hK
                 (apply relInl
                  · intro r n hf
                    have Hf := Lib.hid hf
                    clear hf
                    (first
                      | (fail)
                      | (unfold relAt
                         go_simp
                         (first | (refine relUpon_val ?_ (Below.refl _ _); exact rfl) | exact rfl | (refine relUpon_enter ?_; fail))))
                  (simp only [Act.put, List.setIfInBounds_toArray, List.set_cons_zero, List.set_cons_succ])
                  (with_reducible refine HK.out _ _ ?_)
                  clear HK K))
              refine relNil ?_
              intro r9 n9 hx9
              clear hcH
              (try simp only [List.nil_append, List.cons_append, List.mem_cons, List.not_mem_nil, or_false, forall_eq_or_imp, forall_eq, false_implies, implies_true] at hx9)
              obtain ⟨w9, hb9⟩ := n9
              (try dsimp only)
              obtain ⟨hc9, hf9⟩ := bcell hb9
              have hz9 := hb9.size
              (try simp at hz9)
              have HB9 := Lib.hid (HB.out.trans (hb9.mono HB.out.size))
              clear hb9 hc9 hf9 hz9
              go_wp2_with (go_at_call 35; (with_reducible refine (fknown_any _).mono ?_); rintro e w3 ⟨rfl, hb⟩; have HB3 := Lib.hid (HB9.out.trans (hb.mono HB9.out.size)); clear hb)
              go_ret
              exact ⟨by first | rfl | trivial, H2.out.bl.trans (HB3.out.mono H2.out.bl.size)⟩
            · have q1 := str_no he
              have HNy := Lib.hid (HNx.out ⟨rfl, he⟩)
              clear he HNx
              go_upto_region 6 with (fail)
              have hcH := held_cell
              refine region_rel (by kernel_rfl) (by kernel_rfl) ?_
              repeat
                ((with_reducible refine relStep (fun K hK => ?_))
                 (have HK := Lib.hid hK)
                 clear hK
                 (apply relInl
                  · intro r n hf
                    have Hf := Lib.hid hf
                    clear hf
                    (first
                      | (fail)
                      | (unfold relAt
                         go_simp
                         (first | (refine relUpon_val ?_ (Below.refl _ _); exact rfl) | exact rfl | (refine relUpon_enter ?_; fail))))
                  (simp only [Act.put, List.setIfInBounds_toArray, List.set_cons_zero, List.set_cons_succ])
                  (with_reducible refine HK.out _ _ ?_)
                  clear HK K))
              refine relNil ?_
              intro r9 n9 hx9
              clear hcH
              (try simp only [List.nil_append, List.cons_append, List.mem_cons, List.not_mem_nil, or_false, forall_eq_or_imp, forall_eq, false_implies, implies_true] at hx9)
              obtain ⟨w9, hb9⟩ := n9
              (try dsimp only)
              obtain ⟨hc9, hf9⟩ := bcell hb9
              have hz9 := hb9.size
              (try simp at hz9)
              have HB9 := Lib.hid (HB.out.trans (hb9.mono HB.out.size))
              clear hb9 hc9 hf9 hz9
              go_wp2
              go_roundw
              case rel => exact ⟨k + 1, by omega, by go_num, HNy.out, HB9.out⟩
              case measure => simp [intOf]; omega
          · have q1 : decide (0 < (sl : Int)) = true := decide_eq_true (by omega)
            have q2 : decide (0 < sl) = true := decide_eq_true (by omega)
            have q3 : 0 < sl := by omega
            clear HNx
            go_upto_region 6 with (fail)
            have hcH := held_cell
            refine region_rel (by kernel_rfl) (by kernel_rfl) ?_
            repeat
              ((with_reducible refine relStep (fun K hK => ?_))
               (have HK := Lib.hid hK)
               clear hK
               (apply relInl
                · intro r n hf
                  have Hf := Lib.hid hf
                  clear hf
                  (first
                    | (fail)
                    | (unfold relAt
                       go_simp
                       (first | (refine relUpon_val ?_ (Below.refl _ _); exact rfl) | exact rfl | (refine relUpon_enter ?_; fail))))
                (simp only [Act.put, List.setIfInBounds_toArray, List.set_cons_zero, List.set_cons_succ])
                (with_reducible refine HK.out _ _ ?_)
                clear HK K))
            refine relNil ?_
            intro r9 n9 hx9
            clear hcH
            (try simp only [List.nil_append, List.cons_append, List.mem_cons, List.not_mem_nil, or_false, forall_eq_or_imp, forall_eq, false_implies, implies_true] at hx9)
            obtain ⟨w9, hb9⟩ := n9
            (try dsimp only)
            obtain ⟨hc9, hf9⟩ := bcell hb9
            have hz9 := hb9.size
            (try simp at hz9)
            have HB9 := Lib.hid (HB.out.trans (hb9.mono HB.out.size))
            clear hb9 hc9 hf9 hz9
            go_wp2_with (go_at_call 35; (with_reducible refine (fknown_any _).mono ?_); rintro e w3 ⟨rfl, hb⟩; have HB3 := Lib.hid (HB9.out.trans (hb.mono HB9.out.size)); clear hb)
            go_ret
            exact ⟨by first | rfl | trivial, H2.out.bl.trans (HB3.out.mono H2.out.bl.size)⟩
        · obtain rfl : N = k := by omega
          have hSa : ∀ b ∈ bs, b.p.spds.length = 0 ∧ b.p.nm ≠ p.nm := fun b hb => hS b (by rw [List.take_of_length_le (Nat.le_of_eq HN.out)]; exact hb)
          have HFe := Lib.hid (HFe0.out hSa)
          have HPu := Lib.hid (HPt.out hSa)
          obtain ⟨V4, hV4⟩ : ∃ V, V = wr := ⟨_, rfl⟩
          have H5 := Lib.hid (show SF w a ms c bs p V4 by rw [hV4]; exact H4.out)
          clear hS hB HS HB hSa HFe0 HPt H4 H2
          go_wp2
          rw [← hV4]
          clear hV4
          go_loopw [8] (fun vi wr => ∃ j : Nat, j ≤ N ∧ vi = .int .i64 j ∧ Below V4.heap.size V4 wr) (fun vi _ => N - (intOf vi).toNat)
          case atStart => exact ⟨0, Nat.zero_le _, rfl, Below.refl _ _⟩
          case round =>
            obtain ⟨k, hk, rfl, hB⟩ := hrel
            have HB := Lib.hid hB
            have H4 := Lib.hid (H5.out.mono hB)
            clear hB
            by_cases hlt : k < N
            · obtain ⟨b, o, rfl, hb, hc⟩ := H4.out.ya.bl (by rw [HN.out]; omega)
              have HGr := Lib.hid H4.out.ya.bl
              clear hc
              obtain ⟨i0, hi, hz0, hz1, hz2⟩ := info_parts Try.info56
              have Hi := Lib.hid hi
              have Hz0 := Lib.hid hz0
              have Hz1 := Lib.hid hz1
              have Hz2 := Lib.hid hz2
              clear hi hz0 hz1 hz2
              have hownN := World.ownsRow_nil wr wr.heap.size 56 21
              go_upto_region 13 with (at_builtin; refine wpList_append_src rfl (.tmp 56) (.tmp 59) 23 rfl wr.heap.size 56 i0 _ 21 288 Try.underlying23 Hi.out Hz0.out Hz1.out Hz2.out rfl (by decide) _ 0 [] rfl hownN (some ⟨b, o, none⟩) k kc ((bs.take k).flatMap brow) rfl (by rw [rows_length brow 21 brow_len, List.length_take, HN.out, Nat.min_eq_left (by omega)]) (RowsAt.news brow_len (rows_take9 HGr.out k)) (fun e => by cases e) (flat_ones brow_one (bs.take k)) (by unfold maxLen; omega) (by omega) (Nat.le_refl _) ?_; intro v6 w6 hown6 hgrow6; rw [Nat.zero_add, List.nil_append] at hown6; obtain ⟨a6, k6, rfl⟩ := own_sl hown6; have HB6 := Lib.hid (own_below hownN (Below.refl wr.heap.size wr) (Nat.le_refl _) hgrow6); have HO6 := Lib.hid hown6; clear hown6 hgrow6)
              have HG6 := Lib.hid (HGr.out.mono HB6.out)
              have hz6 := HB6.out.size
              have hfl : (bs.take k ++ bs.drop (k + 1)).length = k + (N - (k + 1)) := by rw [List.length_append, List.length_take, List.length_drop, HN.out, Nat.min_eq_left (by omega)]
              have Hfl := Lib.hid hfl
              obtain ⟨Mx, hMx⟩ : ∃ M, (bs.take k ++ bs.drop (k + 1)).length = M := ⟨_, rfl⟩
              have HMl := Lib.hid hMx
              clear hfl hownN HGr hMx
              by_cases hkc1 : kc = k + 1
              · have hrd : RowsAt brow 21 w6 (some ⟨b, o, none⟩) (bs.drop (k + 1)) := fun h0 => by rw [List.length_drop, HN.out] at h0; omega
                have HRd := Lib.hid hrd
                have HKc := Lib.hid hkc1
                clear hrd hkc1
                go_upto_region 14 with (at_builtin; refine wpList_append_src rfl (.tmp 61) (.tmp 65) 23 rfl wr.heap.size 56 i0 _ 21 288 Try.underlying23 Hi.out Hz0.out Hz1.out Hz2.out rfl (by decide) _ k ((bs.take k).flatMap brow) rfl HO6.out (some ⟨b, o, none⟩) (N - (k + 1)) (kc - (k + 1)) ((bs.drop (k + 1)).flatMap brow) (by first | rfl | (dsimp only [Act.eval]; simp [HKc.out]; done) | (have hkc := HKc.out; dsimp only [Act.eval]; simp; omega)) (by rw [rows_length brow 21 brow_len, List.length_drop, HN.out]) (RowsAt.news brow_len HRd.out) (fun e => by cases e) (flat_ones brow_one (bs.drop (k + 1))) (by unfold maxLen; omega) (by omega) hz6 ?_; intro v7 w7 hown7 hgrow7; have HB7 := Lib.hid (own_below HO6.out HB6.out hz6 hgrow7); rw [← List.flatMap_append, ← Hfl.out] at hown7; obtain ⟨a7, k7, rfl, -, hr7⟩ := IsL.of_own brow_len (by decide) hown7; have HR7 := Lib.hid hr7; rw [HMl.out]; clear hown7 hgrow7 hr7)
                have H7 := Lib.hid (H4.out.mono HB7.out)
                have hf7 := HFe.out w7 a7 k7 _ H7.out HR7.out (sub_one9 bs k)
                rw [HMl.out] at hf7
                have HF7 := Lib.hid hf7
                clear hf7
                have HBx := Lib.hid (HB.out.trans (HB7.out.mono HB.out.size))
                clear HB6 HG6 HO6 HR7 hz6 HRd HKc HB7
                go_wp2_with (go_at_call 39; (with_reducible refine (HF7.out).mono ?_); rintro e w8 ⟨rfl, hb⟩; have HB8 := Lib.hid (HBx.out.trans (hb.mono HBx.out.size)); clear hb)
                go_roundw
                case rel => exact ⟨k + 1, by omega, by go_num, HB8.out⟩
                case measure => simp [intOf]; omega
              · have HRd := Lib.hid (rows_drop9 HG6.out (k + 1))
                have HKc := Lib.hid hkc1
                clear hkc1
                go_upto_region 14 with (at_builtin; refine wpList_append_src rfl (.tmp 61) (.tmp 65) 23 rfl wr.heap.size 56 i0 _ 21 288 Try.underlying23 Hi.out Hz0.out Hz1.out Hz2.out rfl (by decide) _ k ((bs.take k).flatMap brow) rfl HO6.out (some ⟨b, o + (k + 1) * 21, none⟩) (N - (k + 1)) (kc - (k + 1)) ((bs.drop (k + 1)).flatMap brow) (by first | rfl | (dsimp only [Act.eval]; simp [HKc.out]; done) | (have hkc := HKc.out; dsimp only [Act.eval]; simp; omega)) (by rw [rows_length brow 21 brow_len, List.length_drop, HN.out]) (RowsAt.news brow_len HRd.out) (fun e => by cases e) (flat_ones brow_one (bs.drop (k + 1))) (by unfold maxLen; omega) (by omega) hz6 ?_; intro v7 w7 hown7 hgrow7; have HB7 := Lib.hid (own_below HO6.out HB6.out hz6 hgrow7); rw [← List.flatMap_append, ← Hfl.out] at hown7; obtain ⟨a7, k7, rfl, -, hr7⟩ := IsL.of_own brow_len (by decide) hown7; have HR7 := Lib.hid hr7; rw [HMl.out]; clear hown7 hgrow7 hr7)
                have H7 := Lib.hid (H4.out.mono HB7.out)
                have hf7 := HFe.out w7 a7 k7 _ H7.out HR7.out (sub_one9 bs k)
                rw [HMl.out] at hf7
                have HF7 := Lib.hid hf7
                clear hf7
                have HBx := Lib.hid (HB.out.trans (HB7.out.mono HB.out.size))
                clear HB6 HG6 HO6 HR7 hz6 HRd HKc HB7
                go_wp2_with (go_at_call 39; (with_reducible refine (HF7.out).mono ?_); rintro e w8 ⟨rfl, hb⟩; have HB8 := Lib.hid (HBx.out.trans (hb.mono HBx.out.size)); clear hb)
                go_roundw
                case rel => exact ⟨k + 1, by omega, by go_num, HB8.out⟩
                case measure => simp [intOf]; omega
            · obtain rfl : N = k := by omega
              obtain ⟨Z, hZ⟩ : ∃ Z, whereF ms bs p = Z := ⟨_, rfl⟩
              rw [hZ] at HWh HPu hzl
              obtain ⟨nz, hnz⟩ : ∃ nz, Z.length = nz := ⟨_, rfl⟩
              have Hnz := Lib.hid hnz
              rw [hnz] at hzl
              clear hZ hnz HFe HB H5
              go_wp2_with (first
                | ((with_reducible refine at_load (ty := 47) ?_); refine load_cells rfl 47 (.tmp 5) rfl w.heap.size 0 rfl [.string (p).nm, .int .i64 (p).n0, .int .i64 (p).n1, .int .i64 (p).n2, .int .i64 (p).n3, .int .i64 (p).n4, .slice (p).la (p).labs.length (p).lk, .slice (p).sa (p).sels.length (p).sk, .slice (p).ta (p).trms.length (p).tk, .slice (p).ba (p).bers.length (p).bk, .slice (p).pa (p).prts.length (p).pk, .slice (p).aa (p).aprs.length (p).ak, .bool (p).wd, .slice (p).da (p).spds.length (p).dk, .int .i64 (p).sw, .int .i64 (p).rk, .string (p).ow, .bool (p).dm, .bool (p).pn, .bool (p).lc] _ Try.underlying47 rfl (by kernel_rfl) H4.out.rng ?_)
                | (go_at_call 37; (with_reducible refine (HWh.out _ H4.out).mono ?_); rintro e w3 ⟨⟨v, rfl, hv⟩, hb⟩; obtain ⟨az, kz, rfl, -, hrz⟩ := IsL.of_own scs_len (by decide) hv; have HT3 := Lib.hid hrz; have H3 := Lib.hid (H4.out.mono hb); clear hv hrz hb; rw [Hnz.out]))
              obtain ⟨V3, hV3⟩ : ∃ V3, V3 = w3 := ⟨_, rfl⟩
              rw [← hV3] at HT3 H3 ⊢
              clear hV3 HWh H4
              go_loopw [11] (fun vi wr => ∃ k : Nat, k ≤ nz ∧ vi = .int .i64 k ∧ Below V3.heap.size V3 wr) (fun vi _ => nz - (intOf vi).toNat)
              case atStart => exact ⟨0, Nat.zero_le _, rfl, Below.refl _ _⟩
              case round =>
                obtain ⟨k, hk, rfl, hB⟩ := hrel
                have HB := Lib.hid hB
                have H4 := Lib.hid (H3.out.mono hB)
                by_cases hlt : k < nz
                · obtain ⟨z, hz⟩ := mem_at (l := Z) (k := k) (by rw [Hnz.out]; exact hlt)
                  obtain ⟨q, o, rfl, hq, hc⟩ := (HT3.out.mono hB) (by rw [Hnz.out]; omega)
                  have c0 : wr.cell? ⟨q, o + k, none⟩ = some (.string z) := by
                    have h9 := hc k z hz 0 (by decide)
                    rw [Nat.mul_one] at h9
                    exact h9
                  have hlx := H4.out.bx.lt
                  have HRx := Lib.hid H4.out.rng
                  have HPz := Lib.hid (fun V hV => HPu.out V hV z (List.mem_of_getElem? hz))
                  clear hc hz hB
                  go_upto_region 20 with (fail)
                  have hcH := held_cell
                  refine region_rel (by kernel_rfl) (by kernel_rfl) ?_
                  repeat
                    ((with_reducible refine relStep (fun K hK => ?_))
                     (have HK := Lib.hid hK)
                     clear hK
                     (apply relInl
                      · intro r n hf
                        have Hf := Lib.hid hf
                        clear hf
                        (first
                          | (((with_reducible refine at_rel (ty := 47) ?_); refine rel_load rfl w.heap.size 0 rfl [.string (p).nm, .int .i64 (p).n0, .int .i64 (p).n1, .int .i64 (p).n2, .int .i64 (p).n3, .int .i64 (p).n4, .slice (p).la (p).labs.length (p).lk, .slice (p).sa (p).sels.length (p).sk, .slice (p).ta (p).trms.length (p).tk, .slice (p).ba (p).bers.length (p).bk, .slice (p).pa (p).prts.length (p).pk, .slice (p).aa (p).aprs.length (p).ak, .bool (p).wd, .slice (p).da (p).spds.length (p).dk, .int .i64 (p).sw, .int .i64 (p).rk, .string (p).ow, .bool (p).dm, .bool (p).pn, .bool (p).lc] _ Try.underlying47 rfl (by kernel_rfl) (rangeAt_mono HRx.out hlx n.below) rfl))
                          | (unfold relAt
                             go_simp
                             (first | (refine relUpon_val ?_ (Below.refl _ _); exact rfl) | exact rfl | (refine relUpon_enter ?_; fail))))
                      (simp only [Act.put, List.setIfInBounds_toArray, List.set_cons_zero, List.set_cons_succ])
                      (with_reducible refine HK.out _ _ ?_)
                      clear HK K))
                  (with_reducible refine relStep (fun K hK => ?_))
                  (have HK := Lib.hid hK)
                  clear hK
                  refine relInr (IsPut a ms) (IsPut.stays a ms) (fun r n hf => ?_) ?_
                  · have Hf := Lib.hid hf
                    clear hf HK K
                    unfold relAt
                    (skip)
                    go_simp
                    ((refine relUpon_enter ?_; go_at_call 40; (with_reducible refine (HPz.out _ (H4.out.mono n.below)).mono ?_); rintro e w9 ⟨⟨v, rfl, h1⟩, h2⟩; exact ⟨⟨_, rfl, h1⟩, h2⟩))
                  (simp only [Act.put, List.setIfInBounds_toArray, List.set_cons_zero, List.set_cons_succ])
                  (with_reducible refine HK.out _ _ ?_)
                  clear HK K
                  ((with_reducible refine relStep (fun K hK => ?_))
                   (have HK := Lib.hid hK)
                   clear hK
                   (apply relInl
                    · intro r n hf
                      have Hf := Lib.hid hf
                      clear hf
                      ((obtain ⟨x1, k1, L1, e1, h1, h2⟩ := given_at Hf.out 0 rfl (by dsimp only; decide +kernel); dsimp only at e1; unfold relAt; go_simp; refine relUpon_enter ?_; go_at_call 39; (try rw [e1]); (with_reducible refine (HFw.out _ x1 k1 L1 h1 h2).mono ?_); rintro e w9 ⟨rfl, hb⟩; exact ⟨⟨_, rfl, rfl⟩, hb⟩)))
                   (simp only [Act.put, List.setIfInBounds_toArray, List.set_cons_zero, List.set_cons_succ])
                   (with_reducible refine HK.out _ _ ?_)
                   clear HK K)
                  repeat
                    ((with_reducible refine relStep (fun K hK => ?_))
                     (have HK := Lib.hid hK)
                     clear hK
                     (apply relInl
                      · intro r n hf
                        have Hf := Lib.hid hf
                        clear hf
                        (first
                          | (fail)
                          | (unfold relAt
                             go_simp
                             (first | (refine relUpon_val ?_ (Below.refl _ _); exact rfl) | exact rfl | (refine relUpon_enter ?_; fail))))
                      (simp only [Act.put, List.setIfInBounds_toArray, List.set_cons_zero, List.set_cons_succ])
                      (with_reducible refine HK.out _ _ ?_)
                      clear HK K))
                  refine relNil ?_
                  intro r9 n9 hx9
                  clear hcH
                  (try simp only [List.nil_append, List.cons_append, List.mem_cons, List.not_mem_nil, or_false, forall_eq_or_imp, forall_eq, false_implies, implies_true] at hx9)
                  obtain ⟨w9, hb9⟩ := n9
                  (try dsimp only)
                  obtain ⟨hc9, hf9⟩ := bcell hb9
                  have hz9 := hb9.size
                  (try simp at hz9)
                  have HB9 := Lib.hid (HB.out.trans (hb9.mono HB.out.size))
                  clear hx9 hb9 hc9 hf9 hz9
                  go_wp2
                  go_roundw
                  case rel => exact ⟨k + 1, by omega, by go_num, HB9.out⟩
                  case measure => simp [intOf]; omega
                · obtain rfl : k = nz := by omega
                  clear hB
                  go_wp2_with (go_at_call 35; (with_reducible refine (fknown_any _).mono ?_); rintro e w5 ⟨rfl, hb⟩; have H5 := Lib.hid (H4.out.mono hb); clear hb)
                  go_ret
                  exact ⟨by first | rfl | trivial, H5.out.bl⟩
set_option maxRecDepth 100000 in
theorem walk {H : Type} {enc : TypeId × Value → H} {W : World} {base : Nat} {v u x : Value} {d e f : DataW H} {p q r : List MemPlace}
    (hv : Value.okWide Try.prog W .any base 22 v) (h : DataW.Trod enc Try.prog W 0 (fun _ => true) true 22 v d p)
    (hu : Value.okWide Try.prog W .any base 23 u) (h2 : DataW.Trod enc Try.prog W 0 (fun _ => true) true 23 u e q)
    (hx : Value.okWide Try.prog W .any base 47 x) (h3 : DataW.Trod enc Try.prog W 0 (fun _ => true) true 47 x f r) :
    Calls Try.prog 10 #[v, u, x] W fun e W' => e = .returned (.bool true) ∧ Below W.heap.size W W' := by
  obtain ⟨a, l, k, rfl, -, hF, hm, -, hI⟩ := open_macs hv h
  obtain ⟨c, l2, k2, rfl, -, hG, hm2, hkc, hI2⟩ := open_bnds hu h2
  obtain ⟨m, rfl, hP⟩ := open_pod hx h3
  exact walk1 a k l c k2 l2 m W hF hG hI hI2 hP.here hm hm2 hkc

set_option maxRecDepth 100000 in
theorem lifted (os : Os) (started : os.Started) (H : Type) (enc : TypeId × Value → H) :
    ReturnsInHanded {} Try.checked os 10 .any (Rows.fitKeepsSpec.pre6 enc Try.prog Try.f10 Rows.fitKeepsRow.domain false) (Rows.fitKeepsSpec.post enc Try.prog Try.f10 false true false false) := by
  refine returnsInHanded_of_change (C := Try.checked) Try.own started (by kernel_rfl) Try.func10
    (ChangeSpec.witness6 (enc := enc) (C := Try.checked) false ⟨#[], #[.slice none 0 0, .slice none 0 0, .agg #[.string ⟨#[]⟩, .int .i64 0, .int .i64 0, .int .i64 0, .int .i64 0, .int .i64 0, .slice none 0 0, .slice none 0 0, .slice none 0 0, .slice none 0 0, .slice none 0 0, .slice none 0 0, .bool false, .slice none 0 0, .int .i64 0, .int .i64 0, .string ⟨#[]⟩, .bool false, .bool false, .bool false]], []⟩ 8 (by kernel_rfl) (by kernel_rfl) (by kernel_rfl) (by kernel_rfl)) ?_
  intro W base args ds gs before hval hW _ _
  have hW' := hW
  obtain ⟨p, q, hA, hV, rfl, hfz, hnd⟩ := hW
  rw [Try.params10] at hA hval
  obtain ⟨v0, v1, v2, d0, d1, d2, p0, p1, p2, rfl, rfl, rfl, h0, h1, h2⟩ := trodAll_three hA
  refine (walk (hval 0 22 v0 rfl rfl) h0 (hval 1 23 v1 rfl rfl) h1 (hval 2 47 v2 rfl rfl) h2).mono fun e W' ⟨he, hb⟩ => ?_
  exact ⟨_, he, law_post Try.laidOut hW' rfl (by kernel_rfl) (by kernel_rfl) Try.underlying4 rfl rfl rfl hb⟩

theorem over : Rows.fitKeepsRow.holds Try.pinned (OpenSpec.ofChange Rows.fitKeepsSpec) :=
  OpenClaim.holds_of_wide 10 Try.f10 rfl rfl rfl rfl rfl rfl rfl ⟨rfl, rfl, rfl, rfl, rfl⟩ rfl rfl rfl rfl rfl (by kernel_rfl) Try.func10 (by kernel_rfl)
    (of_decide_eq_true (by kernel_rfl)) (by unfold Func.isWrapper; first | (rw [if_pos (by decide +kernel)]; kernel_rfl) | (rw [if_neg (by decide +kernel)]; exact ⟨rfl, rfl⟩))
    (fun os started H enc _ => lifted os started H enc)

/-- The statement. -/
theorem proved : Rows.FitKeepsSaid := over
end fitKeeps
end Go.Proofs.Ythbpnfpalcgfeaa
