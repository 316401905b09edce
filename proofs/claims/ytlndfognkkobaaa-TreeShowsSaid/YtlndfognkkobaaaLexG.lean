/-
  The scanner: Scan.
-/
import Derived.Test.YtlndfognkkobaaaLexF
namespace Go.Proofs.Ytlndfognkkobaaa
open Go.RowKit
set_option linter.unusedVariables false
set_option linter.unusedSimpArgs false

theorem dec_w4 (s : ByteArray) (p : Nat) (h : p < s.size) : (Utf8.decode s p).2 ≤ 4 := by
  rw [decode_dec]
  rcases dec_cases s.size p (s.get! p).toNat (s.get! (p + 1)).toNat (s.get! (p + 2)).toNat (s.get! (p + 3)).toNat with ⟨_, e⟩ | ⟨_, _, _, e⟩ | ⟨_, _, _, _, e⟩ | ⟨_, _, _, _, _, e⟩ | ⟨_, e⟩
  all_goals
    rw [e]
    simp
/-- Bounds on what the scanner holds. -/
def Bd (s : SC) (pos : Nat) : Prop := s.tk.length ≤ 2 * pos ∧ s.ct.length ≤ 4 * pos ∧ 0 ≤ s.ln ∧ s.ln ≤ pos + 1 ∧ 0 ≤ s.cl ∧ s.cl ≤ pos + 1
def Gr (s s' : SC) (k c : Nat) : Prop := s'.tk.length ≤ s.tk.length + k ∧ s'.ct.length ≤ s.ct.length + c ∧ s'.ln = s.ln ∧ s'.cl = s.cl
theorem gr_begin (s : SC) (i r : Int) : Gr s (s.begin i r).1 1 0 := by
  have a : ∀ (k : Int) (x : ByteArray), Gr s ((s.at i).add k x) 1 0 := fun k x => ⟨by show (s.tk ++ [_]).length ≤ _; rw [List.length_append]; exact Nat.le_refl _, Nat.le_refl _, rfl, rfl⟩
  unfold SC.begin
  split
  · exact a _ _
  split
  · exact a _ _
  split
  · exact ⟨Nat.le_succ _, Nat.zero_le _, rfl, rfl⟩
  split
  · exact ⟨Nat.le_succ _, Nat.le_refl _, rfl, rfl⟩
  split
  · unfold SC.grow
    split <;> exact ⟨Nat.le_succ _, Nat.le_refl _, rfl, rfl⟩
  split <;> exact ⟨Nat.le_succ _, Nat.le_refl _, rfl, rfl⟩
theorem gr_step (s : SC) (src : ByteArray) (pos : Nat) (r : Int) (hp : pos < src.size) : Gr s (s.step src pos r).1 2 4 := by
  have z : Gr s s 2 4 := ⟨by omega, by omega, rfl, rfl⟩
  unfold SC.step
  split
  · unfold SC.esc
    split
    · exact ⟨by show s.tk.length ≤ _; omega, by show (s.ct ++ [_]).length ≤ _; rw [List.length_append]; show s.ct.length + 1 ≤ _; omega, rfl, rfl⟩
    split
    · exact ⟨by show s.tk.length ≤ _; omega, by show (s.ct ++ [_]).length ≤ _; rw [List.length_append]; show s.ct.length + 1 ≤ _; omega, rfl, rfl⟩
    split
    · exact ⟨by show s.tk.length ≤ _; omega, by show (s.ct ++ [_]).length ≤ _; rw [List.length_append]; show s.ct.length + 1 ≤ _; omega, rfl, rfl⟩
    · exact z
  split
  · exact z
  split
  · split
    · exact ⟨by show s.tk.length ≤ _; omega, by show s.ct.length ≤ _; omega, rfl, rfl⟩
    · exact z
  split
  · unfold SC.inside
    split
    · exact ⟨by show (s.tk ++ [_]).length ≤ _; rw [List.length_append]; show s.tk.length + 1 ≤ _; omega, by show s.ct.length ≤ _; omega, rfl, rfl⟩
    split
    · exact ⟨by show s.tk.length ≤ _; omega, by show s.ct.length ≤ _; omega, rfl, rfl⟩
    split
    · exact z
    · refine ⟨by show s.tk.length ≤ _; omega, ?_, rfl, rfl⟩
      show (s.ct ++ (src.extract pos (pos + (Utf8.decode src pos).2)).toList).length ≤ _
      have := dec_w4 src pos hp
      rw [List.length_append, ext_list, List.length_take]
      omega
  split
  · split
    · unfold SC.grow
      split <;> exact ⟨by show s.tk.length ≤ _; omega, by show s.ct.length ≤ _; omega, rfl, rfl⟩
    · obtain ⟨g1, g2, g3, g4⟩ := gr_begin (s.endW src pos) pos r
      have e : (s.endW src pos).tk.length = s.tk.length + 1 := by show (s.tk ++ [_]).length = _; rw [List.length_append]; rfl
      exact ⟨by omega, by show _ ≤ s.ct.length + 4; exact Nat.le_trans g2 (by show s.ct.length + 0 ≤ _; omega), g3, g4⟩
  · obtain ⟨g1, g2, g3, g4⟩ := gr_begin s pos r
    exact ⟨by omega, by omega, g3, g4⟩
theorem Bd.step {s : SC} {src : ByteArray} {pos : Nat} {r : Int} (h : Bd s pos) (hp : pos < src.size) : Bd ((s.step src pos r).1.adv r) (pos + (Utf8.decode src pos).2) := by
  obtain ⟨h1, h2, h3, h4, h5, h6⟩ := h
  obtain ⟨g1, g2, g3, g4⟩ := gr_step s src pos r hp
  obtain ⟨e1, e2, e3, e4, e5⟩ := adv_same (s.step src pos r).1 r
  have hw := decode_pos src pos hp
  refine ⟨by rw [e2]; omega, by rw [e4]; omega, ?_⟩
  unfold SC.adv
  split
  · show 0 ≤ (s.step src pos r).1.ln + 1 ∧ (s.step src pos r).1.ln + 1 ≤ _ ∧ (0 : Int) ≤ 1 ∧ (1 : Int) ≤ _
    rw [g3]
    omega
  · show 0 ≤ (s.step src pos r).1.ln ∧ (s.step src pos r).1.ln ≤ _ ∧ 0 ≤ (s.step src pos r).1.cl + 1 ∧ (s.step src pos r).1.cl + 1 ≤ _
    rw [g3, g4]
    omega
theorem Fr.iter {base : Nat} {T : List TypeId} {w w' : World} {k : Nat} {s : ByteArray} {p : Nat} (h : Fr base T w w') (hk : w.heap[k]? = some (.stringIter s p)) : w'.heap[k]? = some (.stringIter s p) :=
  (h.block k (Array.getElem?_eq_some_iff.1 hk).1 (.inr fun t _ ⟨x, hx⟩ => by rw [hk] at hx; cases hx)).trans hk
theorem ST.iter {w : World} {base b k p q : Nat} {src s : ByteArray} {sc : SC} {tv cv : Value} (h : ST w base b src sc tv cv) (hk : w.heap[k]? = some (.stringIter s p)) : ST (w.iterAt k s q) base b src sc tv cv := by
  have ne : ∀ {g : Nat} {t : TypeId}, TyAt w g t → (w.iterAt k s q).heap[g]? = w.heap[g]? := fun {g t} ⟨x, hx⟩ => by
    have hg : k ≠ g := fun e => by rw [← e, hk] at hx; cases hx
    show (w.heap.setIfInBounds k _)[g]? = _
    rw [Array.getElem?_setIfInBounds_ne hg]
  exact ⟨h.row.same (ne (blk_ty h.row)), own_same h.tk fun g e => ne (own_ty h.tk e), own_same h.ct fun g e => ne (own_ty h.ct e), h.hb⟩
/-- What Scan hands back. -/
def ScanPost (base : Nat) (q : ScanR) (e : Ending) (w' : World) : Prop := ∃ v, e = .returned (.tuple #[v, .int .i64 q.2.1, .int .i64 q.2.2]) ∧ w'.ownsRow base 59 5 v q.1.length (q.1.flatMap tkrow)
set_option maxRecDepth 100000 in
set_option maxHeartbeats 8000000 in
theorem scan_any (src : ByteArray) (w : World) :
    Calls Try.prog 34 #[.string src] w fun e w' => ScanPost w.heap.size (scanB src) e w' ∧ Below w.heap.size w w' := by
  by_cases hbig : 65536 < src.size
  · have e : scanB src = ([], 7, 65536) := by unfold scanB; rw [if_pos hbig]
    rw [e]
    have k1 : decide ((65536 : Int) < (src.size : Int)) = true := decide_eq_true (by omega)
    clear e
    go_enter Try.func34, Try.ntmps34
    go_wp2
    refine bodyPost_ret (v := .tuple #[.slice none 0 0, .int .i64 7, .int .i64 65536]) (by simp [results, Try.results34, go_sem]) rfl ⟨⟨_, rfl, World.ownsRow_nil _ _ _ _⟩, by (repeat' (first | with_reducible exact Below.refl _ _ | with_reducible assumption | with_reducible refine Below.drew ?_ | with_reducible refine below_drewN' ?_ _ | with_reducible refine Below.alloc ?_ ?_ _ | with_reducible refine Below.setCell ?_ ?_ _ | with_reducible refine below_step (by assumption) ?_ ?_ | omega | (simp; done) | (simp; omega)))⟩
  · have hsz : src.size ≤ 65536 := by omega
    have k1 : decide ((65536 : Int) < (src.size : Int)) = false := decide_eq_false (by omega)
    have HQ := Lib.hid (scanB_at hsz)
    obtain ⟨Q, hQ⟩ : ∃ Q, scanB src = Q := ⟨_, rfl⟩
    rw [hQ] at HQ ⊢
    clear hQ
    go_enter Try.func34, Try.ntmps34
    go_wp2
    obtain ⟨X, hX⟩ : ∃ X, X = w.heap.size := ⟨_, rfl⟩
    obtain ⟨W, hW⟩ : ∃ W, W = (w.alloc (.cells (srow src sc0 (.slice none 0 0) (.slice none 0 0)).toArray 67)).iter src 0 := ⟨_, rfl⟩
    have hW' : W = (w.alloc (.cells #[.string src, .slice none 0 0, .int .i64 0, .int .i64 0, .string ⟨#[]⟩, .int .i64 0, .int .i64 0, .int .i64 0, .slice none 0 0, .int .i64 0, .int .i64 1, .int .i64 1] 67)).iter src 0 := hW
    rw [← hW', ← hX]
    have hb1 : Below (w.alloc (.cells (srow src sc0 (.slice none 0 0) (.slice none 0 0)).toArray 67)).heap.size (w.alloc (.cells (srow src sc0 (.slice none 0 0) (.slice none 0 0)).toArray 67)) W := by
      rw [hW]
      exact (Below.refl _ _).alloc (Nat.le_refl _) _
    have HT0 := Lib.hid (show ST W X X src sc0 (.slice none 0 0) (.slice none 0 0) from by
      refine (ST.mk ?_ (World.ownsRow_nil _ _ _ _) (World.ownsRow_nil _ _ _ _) (Nat.le_refl _) : ST (w.alloc (.cells (srow src sc0 (.slice none 0 0) (.slice none 0 0)).toArray 67)) X X src sc0 (.slice none 0 0) (.slice none 0 0)).below hb1
      rw [hX]
      exact Blk.new w 67 (srow src sc0 (.slice none 0 0) (.slice none 0 0)))
    have HB0 := Lib.hid (show Below X w W from by
      rw [hX]
      exact ((Below.refl _ w).alloc (Nat.le_refl _) _).trans (hb1.mono (by simp)))
    have HI0 := Lib.hid (show W.heap[X + 1]? = some (.stringIter src 0) from by
      rw [hW, hX]
      have h9 := World.iter_heap (w.alloc (.cells (srow src sc0 (.slice none 0 0) (.slice none 0 0)).toArray 67)) src 0
      simpa using h9)
    have HXe := Lib.hid hX
    clear hW hW' hb1 hX
    go_loopw [6] (fun v wr => ∃ (pos : Nat) (s : SC) (tv cv : Value), ST wr X X src s tv cv ∧ wr.heap[X + 1]? = some (.stringIter src pos) ∧ Below X w wr ∧ SInv src pos s ∧ Bd s pos ∧ Q = scanAt src pos s) (fun _ wr => src.size - wr.iterPos (X + 1))
    case atStart => exact ⟨0, sc0, _, _, HT0.out, HI0.out, HB0.out, SInv.start src, by unfold Bd; decide, HQ.out⟩
    case round =>
      clear HT0 HI0 HB0 HQ
      obtain ⟨pos, s, tv, cv, hT, hit, hB, hI, hbd, hQ⟩ := hrel
      have hXl : X + 1 < wr.heap.size := (Array.getElem?_eq_some_iff.1 hit).1
      have HI := Lib.hid hI
      have HBd := Lib.hid hbd
      have HQ := Lib.hid hQ
      by_cases hp : pos < src.size
      · have hnx : ∀ ty, (Instr.next (.pointer (some ⟨X + 1, 0, none⟩)) true ty).run Try.prog wr = _ := fun ty => Lib.run_next_any_at wr (X + 1) src pos ty hit hp
        have hd1 := decode_le src pos
        have hwd := decode_pos src pos hp
        have hit2 := Lib.iterAt_heap wr (X + 1) src pos (pos + (Utf8.decode src pos).2) hit
        have hB2 := Lib.below_iterAt hB (k := X + 1) (by omega) src (pos + (Utf8.decode src pos).2)
        have hT2 : ST (wr.iterAt (X + 1) src (pos + (Utf8.decode src pos).2)) X X src s tv cv := hT.iter hit
        have hb2 := hbd
        obtain ⟨b1, b2, b3, b4, b5, b6⟩ := hb2
        have HS := Lib.hid (sstep_any X X src s tv cv pos (Utf8.decode src pos).1 _ hT2 hI hp rfl hsz (by omega) (by omega))
        obtain ⟨⟨s', e, q⟩, hst⟩ : ∃ z, s.step src pos ((Utf8.decode src pos).1 : Nat) = z := ⟨_, rfl⟩
        have HSt := Lib.hid hst
        rw [hst] at HS
        have Hit2 := Lib.hid hit2
        have HB2 := Lib.hid hB2
        dsimp only at HS
        clear hT hB hI hbd hQ hst hT2 b1 b2 b3 b4 b5 b6 hB2
        by_cases he : e = 0
        · subst he
          have HI2 := Lib.hid (HI.out.step hp HSt.out)
          have HBd2 := Lib.hid (by have h9 := HBd.out.step (r := ((Utf8.decode src pos).1 : Nat)) hp; rw [HSt.out] at h9; exact h9)
          have HQ2 := Lib.hid (HQ.out.trans (scanAt_go hp HSt.out))
          have hbl := HBd.out
          obtain ⟨b1, b2, b3, b4, b5, b6⟩ := hbl
          have g := gr_step s src pos ((Utf8.decode src pos).1 : Nat) hp
          rw [HSt.out] at g
          obtain ⟨_, _, g3, g4⟩ := g
          dsimp only at g3 g4
          have HA := Lib.hid (fun V tv' cv' (hT : ST V X X src s' tv' cv') => sadv_any X X src s' tv' cv' ((Utf8.decode src pos).1 : Nat) V hT (by omega) (by omega))
          clear b1 b2 b3 b4 b5 b6 g3 g4
          go_wp2_with (first
            | (go_at_call 46; (with_reducible refine HS.out.mono ?_); rintro e w5 ⟨rfl, ⟨tv5, cv5, hT⟩, hF⟩; have HT5 := Lib.hid hT; have HF5 := Lib.hid hF; clear hT hF)
            | (go_at_call 47; (with_reducible refine (HA.out _ _ _ HT5.out).mono ?_); rintro e w6 ⟨rfl, hT, hF⟩; have HT6 := Lib.hid hT; have HF6 := Lib.hid (HF5.out.trans hF); clear hT hF))
          have hit6 := HF6.out.iter Hit2.out
          go_roundw
          case rel => exact ⟨_, _, _, _, HT6.out, hit6, HF6.out.below HB2.out (Nat.le_refl _) (Nat.le_trans (Nat.le_of_eq HXe.out) HB2.out.size), HI2.out, HBd2.out, HQ2.out⟩
          case measure =>
            simp only [World.iterPos, hit6, hit]
            omega
        · have HQ2 := Lib.hid (HQ.out.trans (scanAt_err hp HSt.out he))
          have k2 : (e != 0) = true := by simpa using he
          go_wp2_with (go_at_call 46; (with_reducible refine HS.out.mono ?_); rintro e9 w5 ⟨rfl, ⟨tv5, cv5, hT⟩, hF⟩; have HT5 := Lib.hid hT; have HF5 := Lib.hid hF; clear hT hF)
          refine bodyPost_ret (v := .tuple #[.slice none 0 0, .int .i64 e, .int .i64 q]) (by simp [results, Try.results34, go_sem]) rfl ⟨?_, (by rw [← HXe.out]; exact HF5.out.below HB2.out (Nat.le_refl _) (Nat.le_trans (Nat.le_of_eq HXe.out) HB2.out.size))⟩
          rw [HQ2.out, ← HXe.out]
          exact ⟨_, rfl, World.ownsRow_nil _ _ _ _⟩
      · have hnx : ∀ ty, (Instr.next (.pointer (some ⟨X + 1, 0, none⟩)) true ty).run Try.prog wr = _ := fun ty => Lib.run_next_end_at wr (X + 1) src pos ty hit hp
        have hps : pos = src.size := by have := hI.le; omega
        have hb2 := hbd
        obtain ⟨b1, b2, b3, b4, b5, b6⟩ := hb2
        have HF := Lib.hid (sfin_any X X src s tv cv wr hT (by omega) (fun hm => by
          obtain ⟨q1, q2, _⟩ := hI.cu (.inl hm)
          unfold Ahead at q2
          omega) (by omega))
        have HQ2 := Lib.hid (hQ.trans (scanAt_end (by omega)))
        have HB := Lib.hid hB
        obtain ⟨⟨s', e, q⟩, hst⟩ : ∃ z, s.fin src = z := ⟨_, rfl⟩
        rw [hst] at HF HQ2
        dsimp only at HF
        clear hT hI hbd hQ hst b1 b2 b3 b4 b5 b6 hB HQ
        by_cases he : e = 0
        · subst he
          go_wp2_with (go_at_call 48; (with_reducible refine HF.out.mono ?_); rintro e w5 ⟨rfl, ⟨tv5, hT⟩, hF⟩; have HT5 := Lib.hid hT; have HF5 := Lib.hid hF; have t1 := hT.row.cell 1; have tl := hT.row.lt; dsimp only [srow, List.getElem?_cons_zero, List.getElem?_cons_succ] at t1; clear hT hF)
          refine bodyPost_ret (v := .tuple #[tv5, .int .i64 0, .int .i64 0]) (by simp [results, Try.results34, go_sem]) rfl ⟨?_, (by rw [← HXe.out]; exact HF5.out.below HB.out (Nat.le_refl _) (Nat.le_trans (Nat.le_of_eq HXe.out) HB.out.size))⟩
          rw [HQ2.out, ← HXe.out]
          exact ⟨_, rfl, HT5.out.tk⟩
        · have k2 : (e != 0) = true := by simpa using he
          go_wp2_with (go_at_call 48; (with_reducible refine HF.out.mono ?_); rintro e9 w5 ⟨rfl, ⟨tv5, hT⟩, hF⟩; have HT5 := Lib.hid hT; have HF5 := Lib.hid hF; clear hT hF)
          refine bodyPost_ret (v := .tuple #[.slice none 0 0, .int .i64 e, .int .i64 q]) (by simp [results, Try.results34, go_sem]) rfl ⟨?_, (by rw [← HXe.out]; exact HF5.out.below HB.out (Nat.le_refl _) (Nat.le_trans (Nat.le_of_eq HXe.out) HB.out.size))⟩
          rw [HQ2.out, ← HXe.out]
          rw [show endR (s', e, q) = ([], e, q) from if_neg he]
          exact ⟨_, rfl, World.ownsRow_nil _ _ _ _⟩
end Go.Proofs.Ytlndfognkkobaaa
