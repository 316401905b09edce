/-
  Show: the program's.
-/
import Derived.Test.YtpoeaeemjhnkkaaLexJ
namespace Go.Proofs.Ytpoeaeemjhnkkaa
open Go.RowKit
set_option linter.unusedVariables false
set_option linter.unusedSimpArgs false

abbrev TkL := RowsAt tkrow 5
def tokB (t : Tk) : ByteArray := if t.kd = 1 then chB 40 else if t.kd = 2 then chB 41 else if t.kd = 4 then quoteB t.tx else t.tx
def sepL (p : Option Int) (t : Tk) : List UInt8 := match p with
  | some q => if q ≠ 1 ∧ t.kd ≠ 2 then [32] else []
  | none => []
theorem sep_one {q : Int} {t : Tk} (h : q = 1) : sepL (some q) t = [] := if_neg (fun x => x.1 h)
theorem sep_two {q : Int} {t : Tk} (h : t.kd = 2) : sepL (some q) t = [] := if_neg (fun x => x.2 h)
theorem sep_yes {q : Int} {t : Tk} (h : q ≠ 1) (h2 : t.kd ≠ 2) : sepL (some q) t = [32] := if_pos ⟨h, h2⟩
/-- What is shown of tokens, behind one of a kind. -/
def shF : Option Int → List Tk → List UInt8
  | _, [] => []
  | p, t :: l => sepL p t ++ ((tokB t).toList ++ shF (some t.kd) l)
def lastK : Option Int → List Tk → Option Int
  | p, [] => p
  | _, t :: l => lastK (some t.kd) l
theorem shF_snoc : ∀ (l : List Tk) (p : Option Int) (t : Tk), shF p (l ++ [t]) = shF p l ++ (sepL (lastK p l) t ++ (tokB t).toList)
  | [], p, t => by
    show sepL p t ++ ((tokB t).toList ++ []) = [] ++ (sepL p t ++ (tokB t).toList)
    rw [List.append_nil, List.nil_append]
  | x :: l, p, t => by
    show sepL p x ++ ((tokB x).toList ++ shF (some x.kd) (l ++ [t])) = (sepL p x ++ ((tokB x).toList ++ shF (some x.kd) l)) ++ _
    rw [shF_snoc l (some x.kd) t]
    show _ = _ ++ (sepL (lastK (some x.kd) l) t ++ (tokB t).toList)
    simp only [List.append_assoc]
theorem lastK_snoc : ∀ (l : List Tk) (p : Option Int) (t : Tk), lastK p (l ++ [t]) = some t.kd
  | [], _, _ => rfl
  | _ :: l, _, t => lastK_snoc l _ t
theorem take_snoc {α : Type} {l : List α} {k : Nat} {x : α} (h : l[k]? = some x) : l.take (k + 1) = l.take k ++ [x] := by
  rw [List.take_add_one, h]
  rfl
theorem quote_size (s : ByteArray) : (quoteB s).size ≤ 2 * s.size + 2 := by
  have h1 := qL_len s.toList
  rw [toList_len] at h1
  have h2 : (quoteB s).size = (34 :: (qL s.toList ++ [34])).length := by rw [← toList_len]; unfold quoteB; rw [toB_list]
  rw [h2, List.length_cons, List.length_append]
  show (qL s.toList).length + 1 + 1 ≤ _
  omega
theorem tokB_size (t : Tk) : (tokB t).size ≤ 2 * t.tx.size + 2 := by
  unfold tokB
  split
  · show 1 ≤ _; omega
  split
  · show 1 ≤ _; omega
  split
  · exact quote_size _
  · omega
theorem shF_len (M : Nat) : ∀ (l : List Tk) (p : Option Int), (∀ t ∈ l, t.tx.size ≤ M) → (shF p l).length ≤ l.length * (2 * M + 3)
  | [], _, _ => Nat.zero_le _
  | t :: l, p, h => by
    have h1 := shF_len M l (some t.kd) fun x hx => h x (List.mem_cons_of_mem _ hx)
    have h2 := tokB_size t
    have h3 := h t (List.mem_cons_self ..)
    have h4 : (sepL p t).length ≤ 1 := by
      unfold sepL
      split
      · split
        · exact Nat.le_refl _
        · exact Nat.zero_le _
      · exact Nat.zero_le _
    show (sepL p t ++ ((tokB t).toList ++ shF (some t.kd) l)).length ≤ _
    rw [List.length_append, List.length_append, toList_len, List.length_cons, Nat.add_mul]
    omega
set_option maxRecDepth 100000 in
set_option maxHeartbeats 2000000 in
theorem show1_any (t : Tk) (w : World) (ht : t.tx.size ≤ 1000000) :
    Calls Try.prog 27 #[.agg #[.int .i64 t.kd, .string t.tx, .int .i64 t.po, .int .i64 t.ln, .int .i64 t.cl]] w fun e w' => e = .returned (.string (tokB t)) ∧ Below w.heap.size w w' := by
  obtain ⟨kd, tx, po, ln, cl⟩ := t
  dsimp only at ht ⊢
  have HQ := Lib.hid (fun V => quote_any tx ht V)
  by_cases k1 : kd = 1
  · subst k1
    go_enter Try.func27, Try.ntmps27
    go_wp2
    go_ret
    exact ⟨rfl, by (repeat' (first | with_reducible exact Below.refl _ _ | with_reducible assumption | with_reducible refine Below.drew ?_ | with_reducible refine below_drewN' ?_ _ | with_reducible refine Below.alloc ?_ ?_ _ | with_reducible refine Below.setCell ?_ ?_ _ | with_reducible refine below_step (by assumption) ?_ ?_ | omega | (simp; done) | (simp; omega)))⟩
  · have n1 : (kd == 1) = false := by simpa using k1
    by_cases k2 : kd = 2
    · subst k2
      go_enter Try.func27, Try.ntmps27
      go_wp2
      go_ret
      exact ⟨rfl, by (repeat' (first | with_reducible exact Below.refl _ _ | with_reducible assumption | with_reducible refine Below.drew ?_ | with_reducible refine below_drewN' ?_ _ | with_reducible refine Below.alloc ?_ ?_ _ | with_reducible refine Below.setCell ?_ ?_ _ | with_reducible refine below_step (by assumption) ?_ ?_ | omega | (simp; done) | (simp; omega)))⟩
    · have n2 : (kd == 2) = false := by simpa using k2
      by_cases k4 : kd = 4
      · subst k4
        go_enter Try.func27, Try.ntmps27
        go_wp2_with (go_at_call 10; (with_reducible refine (HQ.out _).mono ?_); rintro e w6 ⟨rfl, hb6⟩; have HB6 := Lib.hid hb6; clear hb6)
        go_ret
        refine ⟨rfl, ?_⟩
        have h9 := HB6.out
        exact ((Below.refl _ w).alloc (Nat.le_refl _) _).trans (h9.mono (by simp))
      · have n4 : (kd == 4) = false := by simpa using k4
        have e : tokB ⟨kd, tx, po, ln, cl⟩ = tx := by unfold tokB; rw [if_neg k1, if_neg k2, if_neg k4]
        rw [e]
        clear e k1 k2 k4
        go_enter Try.func27, Try.ntmps27
        go_wp2
        go_ret
        exact ⟨rfl, by (repeat' (first | with_reducible exact Below.refl _ _ | with_reducible assumption | with_reducible refine Below.drew ?_ | with_reducible refine below_drewN' ?_ _ | with_reducible refine Below.alloc ?_ ?_ _ | with_reducible refine Below.setCell ?_ ?_ _ | with_reducible refine below_step (by assumption) ?_ ?_ | omega | (simp; done) | (simp; omega)))⟩
theorem tk_cells {w : World} {b o : Nat} {t : Tk} (h : ∀ r, r < 5 → w.cell? ⟨b, o + r, none⟩ = (tkrow t)[r]?) :
    w.cell? ⟨b, o, none⟩ = some (.int .i64 t.kd) ∧ w.cell? ⟨b, o + 1, none⟩ = some (.string t.tx) ∧ w.cell? ⟨b, o + 2, none⟩ = some (.int .i64 t.po) ∧ w.cell? ⟨b, o + 3, none⟩ = some (.int .i64 t.ln) ∧ w.cell? ⟨b, o + 4, none⟩ = some (.int .i64 t.cl) :=
  ⟨h 0 (by decide), h 1 (by decide), h 2 (by decide), h 3 (by decide), h 4 (by decide)⟩
set_option maxRecDepth 100000 in
set_option maxHeartbeats 4000000 in
theorem show_any (a : Option Addr) (ka : Nat) (l : List Tk) (w : World) (hF : TkL w a l) (hl : l.length ≤ 7000) (ht : ∀ t ∈ l, t.tx.size ≤ 15000) :
    Calls Try.prog 16 #[.slice a l.length ka] w fun e w' => e = .returned (.string (toB (shF none l))) ∧ Below w.heap.size w w' := by
  have HF := Lib.hid hF
  obtain ⟨n, hn⟩ : ∃ n, l.length = n := ⟨_, rfl⟩
  have HN := Lib.hid hn
  rw [hn] at hl ⊢
  have hbd : ∀ k, k ≤ n → (shF none (l.take k)).length ≤ 220000000 := fun k hk => by
    have h1 := shF_len 15000 (l.take k) none fun t hx => ht t (List.mem_of_mem_take hx)
    rw [List.length_take, HN.out] at h1
    have : min k n ≤ 7000 := by omega
    have h2 : min k n * (2 * 15000 + 3) ≤ 7000 * (2 * 15000 + 3) := Nat.mul_le_mul_right _ this
    omega
  have HBd := Lib.hid hbd
  have HTx := Lib.hid ht
  obtain ⟨X, hX⟩ : ∃ X, X = w.heap.size := ⟨_, rfl⟩
  have HXe := Lib.hid hX
  have HB0 := Lib.hid (show IsBld (w.alloc (.cells #[.pointer none, .slice none 0 0] 39)) X X [] by rw [hX]; exact bld_new w)
  have HW0 := Lib.hid (show Below X w (w.alloc (.cells #[.pointer none, .slice none 0 0] 39)) from (Below.refl _ _).alloc (by omega) _)
  clear hF hn hbd ht
  go_enter Try.func16, Try.ntmps16
  go_wp2
  rw [← hX]
  clear hX
  go_loopw [8] (fun v wr => ∃ k : Nat, k ≤ n ∧ v = .int .i64 k ∧ IsBld wr X X (shF none (l.take k)) ∧ Below X w wr) (fun v _ => n - (intOf v).toNat)
  case atStart => exact ⟨0, Nat.zero_le _, rfl, HB0.out, HW0.out⟩
  case round =>
    clear HB0 HW0
    obtain ⟨k, hk, rfl, hI, hB⟩ := hrel
    have HI := Lib.hid hI
    have HB := Lib.hid hB
    have hXs : X ≤ wr.heap.size := Nat.le_of_lt hI.lt.1
    obtain ⟨L, hL⟩ : ∃ L, shF none (l.take k) = L := ⟨_, rfl⟩
    have hlen : L.length ≤ 220000000 := by rw [← hL]; exact HBd.out k hk
    rw [hL] at HI
    clear hI
    by_cases hlt : k < n
    · obtain ⟨t, ht9⟩ := mem_at (l := l) (k := k) (by rw [HN.out]; exact hlt)
      obtain ⟨tb, to, rfl, htb, htc⟩ := HF.out (by rw [HN.out]; omega)
      have htX : tb < X := by rw [HXe.out]; exact htb
      obtain ⟨d0, d1, d2, d3, d4⟩ := tk_cells (w := wr) (b := tb) (o := to + k * 5) (t := t) (fun r hr => by rw [HB.out.cell (p := ⟨tb, to + k * 5 + r, none⟩) htX]; exact htc k t ht9 r hr)
      have hts := HTx.out t (List.mem_of_getElem? ht9)
      have HSh := Lib.hid (fun V => show1_any t V (by omega))
      have hTs : (tokB t).size ≤ 30002 := by have := tokB_size t; omega
      obtain ⟨T, hT⟩ : ∃ T, tokB t = T := ⟨_, rfl⟩
      rw [hT] at HSh hTs
      have hnx : shF none (l.take (k + 1)) = L ++ (sepL (lastK none (l.take k)) t ++ T.toList) := by rw [take_snoc ht9, shF_snoc, hL, hT]
      have HI1 := Lib.hid (HI.out.below ((Below.refl _ wr).alloc (Nat.le_refl _) (.cells #[.int .i64 t.kd, .string t.tx, .int .i64 t.po, .int .i64 t.ln, .int .i64 t.cl] 28)))
      have HB1 := Lib.hid (HB.out.alloc hXs (.cells #[.int .i64 t.kd, .string t.tx, .int .i64 t.po, .int .i64 t.ln, .int .i64 t.cl] 28))
      have HB1s := Lib.hid (show X ≤ (wr.alloc (.cells #[.int .i64 t.kd, .string t.tx, .int .i64 t.po, .int .i64 t.ln, .int .i64 t.cl] 28)).heap.size from le_alloc hXs _)
      have HY := Lib.hid (show Blk (wr.alloc (.cells #[.int .i64 t.kd, .string t.tx, .int .i64 t.po, .int .i64 t.ln, .int .i64 t.cl] 28)) wr.heap.size 28 (tkrow t) from Blk.new wr 28 (tkrow t))
      have K32 := Lib.hid (show (32 : Int) = (((32 : UInt8).toNat : Nat) : Int) from rfl)
      have hl1 : L.length + T.size ≤ 1000000000 := by omega
      have hl3 : L.length ≤ 1000000000 := by omega
      have hl2 : (L ++ [(32 : UInt8)]).length + T.size ≤ 1000000000 := by rw [List.length_append]; show L.length + 1 + T.size ≤ _; omega
      have htw : tb < wr.heap.size := by omega
      obtain ⟨k0, hk0⟩ : ∃ k0, k0 = k := ⟨_, rfl⟩
      have hkn : k0 < n := by omega
      have Hprev := Lib.hid (fun j (hj : k = j + 1) => show ∃ p : Tk, l[j]? = some p ∧ wr.cell? ⟨tb, to + j * 5, none⟩ = some (.int .i64 p.kd) from by
        obtain ⟨p, hp⟩ := mem_at (l := l) (k := j) (by rw [HN.out]; omega)
        refine ⟨p, hp, ?_⟩
        rw [HB.out.cell (p := ⟨tb, to + j * 5, none⟩) htX]
        exact htc j p hp 0 (by decide))
      have Hnx := Lib.hid hnx
      obtain ⟨kd, tx, po, ln, cl⟩ := t
      dsimp only at d0 d1 d2 d3 d4 HI1 HB1 HB1s HY HSh
      clear hL hT hnx htc ht9 hts hB
      cases k with
      | zero =>
        have Hnx := Lib.hid (show shF none (l.take (k0 + 1)) = L ++ T.toList by rw [hk0]; exact Hnx.out)
        rw [Nat.zero_mul, Nat.add_zero] at d0 d1 d2 d3 d4
        go_wp2_with (first
          | (go_at_call 27; (with_reducible refine (HSh.out _).mono ?_); rintro e w6 ⟨rfl, hb6⟩; have HI6 := Lib.hid (HI1.out.below hb6); have HB6 := Lib.hid (HB1.out.trans (hb6.mono HB1s.out)); clear hb6)
          | (go_at_call 21; (with_reducible refine (bstr_any X X L T _ HI6.out hl1 (Nat.le_of_lt (HI6.out).lt.1)).mono ?_); rintro e w7 ⟨rfl, hI, hF⟩; have HI7 := Lib.hid hI; have HB7 := Lib.hid (hF.below HB6.out (Nat.le_refl _) (Nat.le_of_lt (HI6.out).lt.1)); clear hI hF))
        go_roundw
        case rel => exact ⟨k0 + 1, by omega, by go_num, by rw [Hnx.out]; exact HI7.out, HB7.out⟩
        case measure => simp [intOf]; omega
      | succ j =>
        obtain ⟨p, hp, p0⟩ := Hprev.out j rfl
        have hls : lastK none (l.take (j + 1)) = some p.kd := by rw [take_snoc hp, lastK_snoc]
        obtain ⟨pk, hpk⟩ : ∃ pk, p.kd = pk := ⟨_, rfl⟩
        rw [hpk] at p0 hls
        have hlsT := Hnx.out
        rw [hls, ← hk0] at hlsT
        have hjn : (j : Int) < (n : Int) := by omega
        have hj0 : (0 : Int) ≤ (j : Int) := by omega
        clear hp hpk hls Hprev Hnx
        by_cases e1 : pk = 1
        · have Hnx := Lib.hid (show shF none (l.take (k0 + 1)) = L ++ T.toList by rw [hlsT, sep_one e1]; rfl)
          subst e1
          clear hlsT
          go_wp2_with (first
            | (go_at_call 27; (with_reducible refine (HSh.out _).mono ?_); rintro e w6 ⟨rfl, hb6⟩; have HI6 := Lib.hid (HI1.out.below hb6); have HB6 := Lib.hid (HB1.out.trans (hb6.mono HB1s.out)); clear hb6)
            | (go_at_call 21; (with_reducible refine (bstr_any X X L T _ HI6.out hl1 (Nat.le_of_lt (HI6.out).lt.1)).mono ?_); rintro e w7 ⟨rfl, hI, hF⟩; have HI7 := Lib.hid hI; have HB7 := Lib.hid (hF.below HB6.out (Nat.le_refl _) (Nat.le_of_lt (HI6.out).lt.1)); clear hI hF))
          go_roundw
          case rel => exact ⟨k0 + 1, by omega, by go_num, by rw [Hnx.out]; exact HI7.out, HB7.out⟩
          case measure => simp [intOf]; omega
        · have n1 : (pk != 1) = true := by simpa using e1
          by_cases e2 : kd = 2
          · have Hnx := Lib.hid (show shF none (l.take (k0 + 1)) = L ++ T.toList by rw [hlsT, sep_two e2]; rfl)
            subst e2
            clear hlsT
            go_wp2_with (first
              | (go_at_call 27; (with_reducible refine (HSh.out _).mono ?_); rintro e w6 ⟨rfl, hb6⟩; have HI6 := Lib.hid (HI1.out.below hb6); have HB6 := Lib.hid (HB1.out.trans (hb6.mono HB1s.out)); clear hb6)
              | (go_at_call 21; (with_reducible refine (bstr_any X X L T _ HI6.out hl1 (Nat.le_of_lt (HI6.out).lt.1)).mono ?_); rintro e w7 ⟨rfl, hI, hF⟩; have HI7 := Lib.hid hI; have HB7 := Lib.hid (hF.below HB6.out (Nat.le_refl _) (Nat.le_of_lt (HI6.out).lt.1)); clear hI hF))
            go_roundw
            case rel => exact ⟨k0 + 1, by omega, by go_num, by rw [Hnx.out]; exact HI7.out, HB7.out⟩
            case measure => simp [intOf]; omega
          · have n2 : (kd != 2) = true := by simpa using e2
            have Hnx := Lib.hid (show shF none (l.take (k0 + 1)) = (L ++ [32]) ++ T.toList by rw [hlsT, sep_yes e1 e2, List.append_assoc])
            clear hlsT
            go_wp2_with (first
              | (go_at_call 20; (with_reducible refine (bbyte_any X X L 32 32 K32.out _ HI1.out hl3 (Nat.le_of_lt (HI1.out).lt.1)).mono ?_); rintro e w5 ⟨rfl, hI, hF⟩; have HI5 := Lib.hid hI; have HB5 := Lib.hid (hF.below HB1.out (Nat.le_refl _) HB1s.out); have HY5 := Lib.hid (HY.out.same (hF.block _ HY.out.lt (.inr (fun q hq hm => by rcases List.mem_cons.1 hq with rfl | hq; exact (blk_ty HY.out).ne hm (by decide) rfl; rcases List.mem_cons.1 hq with rfl | hq; exact (blk_ty HY.out).ne hm (by decide) rfl; cases hq)))); obtain ⟨y0, y1, y2, y3, y4⟩ := tk_cells (fun r hr => by (have h9 := HY5.out.cell (0 + r); rw [Nat.zero_add] at h9 ⊢; exact h9)); have hy5 := HY5.out.lt; clear hI hF)
              | (go_at_call 27; (with_reducible refine (HSh.out _).mono ?_); rintro e w6 ⟨rfl, hb6⟩; have HI6 := Lib.hid (HI5.out.below hb6); have HB6 := Lib.hid (HB5.out.trans (hb6.mono (Nat.le_of_lt (HI5.out).lt.1))); clear hb6)
              | (go_at_call 21; (with_reducible refine (bstr_any X X (L ++ [32]) T _ HI6.out hl2 (Nat.le_of_lt (HI6.out).lt.1)).mono ?_); rintro e w7 ⟨rfl, hI, hF⟩; have HI7 := Lib.hid hI; have HB7 := Lib.hid (hF.below HB6.out (Nat.le_refl _) (Nat.le_of_lt (HI6.out).lt.1)); clear hI hF))
            go_roundw
            case rel => exact ⟨k0 + 1, by omega, by go_num, by rw [Hnx.out]; exact HI7.out, HB7.out⟩
            case measure => simp [intOf]; omega
    · obtain rfl : k = n := by omega
      have hall : l.take k = l := List.take_of_length_le (by rw [HN.out]; exact Nat.le_refl _)
      rw [hall] at hL
      have HLq := Lib.hid hL
      clear hL hall hB
      go_wp2_with (go_at_call 22; (with_reducible refine (bstring_any X X L _ HI.out hXs).mono ?_); rintro e w6 ⟨rfl, hb6⟩; have HB6 := Lib.hid hb6; clear hb6)
      refine bodyPost_ret (v := .string (toB L)) (by simp [results, Try.results16, go_sem]) rfl ⟨by rw [HLq.out], ?_⟩
      rw [← HXe.out]
      exact HB.out.trans HB6.out
end Go.Proofs.Ytpoeaeemjhnkkaa
