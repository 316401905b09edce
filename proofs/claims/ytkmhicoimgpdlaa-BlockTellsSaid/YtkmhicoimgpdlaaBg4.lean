/-
  Budgets: Evict.
-/
import Derived.Test.YtkmhicoimgpdlaaBg3
namespace Go.Proofs.Ytkmhicoimgpdlaa
open Go.RowKit
set_option linter.unusedVariables false
set_option linter.unusedSimpArgs false

theorem Try.info64 : (Try.prog.info? 64).map (fun i => (i.zero, i.size, i.bytes)) = some (some (.agg #[.string ⟨#[]⟩, .int .i64 0, .int .i64 0, .int .i64 0, .int .i64 0, .int .i64 0, .slice none 0 0, .slice none 0 0, .slice none 0 0, .slice none 0 0, .slice none 0 0, .slice none 0 0, .bool false, .slice none 0 0, .int .i64 0, .int .i64 0, .string ⟨#[]⟩, .bool false, .bool false, .bool false, .string ⟨#[]⟩]), 21, 288) := by kernel_rfl
set_option maxRecDepth 100000 in
set_option maxHeartbeats 4000000 in
theorem cbnd_any (c : Option Addr) (kc : Nat) (xs : List Bd) (w : World) (hF : BndL w c xs) (hm : xs.length ≤ 1000000) :
    Calls Try.prog 80 #[.slice c xs.length kc] w (Gives w (OwnL brow 21 w.heap.size 64 xs)) := by
  have HF := Lib.hid hF
  clear hF
  obtain ⟨i0, hi, hz0, hz1, hz2⟩ := info_parts Try.info64
  have Hi := Lib.hid hi
  have Hz0 := Lib.hid hz0
  have Hz1 := Lib.hid hz1
  have Hz2 := Lib.hid hz2
  clear hi hz0 hz1 hz2
  cases c with
  | none =>
    obtain rfl : xs = [] := by
      cases xs with
      | nil => rfl
      | cons x xs =>
        obtain ⟨b, o, e, -⟩ := HF.out (Nat.succ_pos _)
        cases e
    have hq : ∀ V : World, (binOp .eql 23 (.slice none 0 kc) (.slice none 0 0)).run Try.prog V = .ok (.bool true) V := fun V => Lib.run_eql_slice_nil V _ _ none 0 kc 0 0 Try.underlying23
    go_enter Try.func80, Try.ntmps80
    go_wp2
    refine bodyPost_ret (v := .slice none 0 0) (by simp [results, Try.results80, go_sem]) rfl ⟨⟨_, rfl, World.ownsRow_nil _ _ _ _⟩, by (repeat' (first | with_reducible exact Below.refl _ _ | with_reducible assumption | with_reducible refine Below.drew ?_ | with_reducible refine below_drewN' ?_ _ | with_reducible refine Below.alloc ?_ ?_ _ | with_reducible refine Below.setCell ?_ ?_ _ | with_reducible refine below_step (by assumption) ?_ ?_ | omega | (simp; done) | (simp; omega)))⟩
  | some q =>
    have hc3 : 0 + xs.length ≤ maxLen := by unfold maxLen; omega
    have hc4 : (0 + xs.length) * 288 ≤ 140737488355328 := by omega
    have hq : ∀ V : World, (binOp .eql 23 (.slice (some q) xs.length kc) (.slice none 0 0)).run Try.prog V = .ok (.bool false) V := fun V => Lib.run_eql_slice_nil V _ _ (some q) _ _ 0 0 Try.underlying23
    go_enter Try.func80, Try.ntmps80
    go_wp2_with (at_builtin; refine wpList_append_src rfl (.tmp 5) (.tmp 6) 23 rfl w.heap.size 64 i0 _ 21 288 Try.underlying23 Hi.out Hz0.out Hz1.out Hz2.out rfl (by decide) _ 0 [] rfl (World.ownsRow_made w #[] 0 (Nat.le_refl w.heap.size) (Nat.zero_le _) rfl) (some q) xs.length kc (xs.flatMap brow) rfl (rows_length brow 21 brow_len xs) (RowsAt.news brow_len (HF.out.mono ((Below.refl _ w).alloc (Nat.le_refl _) _))) (fun e => by cases e) (flat_ones brow_one xs) hc3 hc4 (le_alloc (Nat.le_refl w.heap.size) _) ?_; intro v1 w3 hown1 hgrow1; rw [Nat.zero_add, List.nil_append] at hown1; have HB3 := Lib.hid (own_below (World.ownsRow_made w #[] 0 (Nat.le_refl w.heap.size) (Nat.zero_le _) rfl : (w.alloc (.cells #[] 64)).ownsRow w.heap.size 64 21 (.slice (some ⟨w.heap.size, 0, none⟩) 0 0) 0 []) ((Below.refl _ w).alloc (Nat.le_refl w.heap.size) _) (le_alloc (Nat.le_refl w.heap.size) _) hgrow1); have HO3 := Lib.hid hown1; clear hown1 hgrow1)
    refine bodyPost_ret (v := v1) (by simp [results, Try.results80, go_sem]) rfl ⟨⟨_, rfl, HO3.out⟩, HB3.out⟩
theorem flat_set {α : Type} {enc : α → List Value} {K : Nat} (hk : ∀ x, (enc x).length = K) : ∀ (l : List α) (j : Nat) (x y : α) (r : Nat) (v : Value), l[j]? = some x → r < K → enc y = (enc x).set r v → (l.flatMap enc).set (j * K + r) v = (l.set j y).flatMap enc
  | [], j, x, y, r, v, h, _, _ => by simp at h
  | z :: l, 0, x, y, r, v, h, hr, e => by
    obtain rfl : z = x := by simpa using h
    rw [Nat.zero_mul, Nat.zero_add, List.set_cons_zero, List.flatMap_cons, List.flatMap_cons, List.set_append_left _ _ (by rw [hk]; exact hr), e]
  | z :: l, j + 1, x, y, r, v, h, hr, e => by
    have ih := flat_set hk l j x y r v (by simpa using h) hr e
    have e1 : (j + 1) * K + r = (enc z).length + (j * K + r) := by rw [hk, Nat.succ_mul]; omega
    rw [e1, List.set_cons_succ, List.flatMap_cons, List.flatMap_cons, List.set_append_right _ _ (by omega), Nat.add_sub_cancel_left, ih]
/-- The pods with one of them pending. -/
def evBs (nm : ByteArray) : List Bd → List Bd
  | [] => []
  | b :: bs => if stQ nm true b = true then ⟨b.p, emp⟩ :: bs else b :: evBs nm bs
theorem ev_at (nm : ByteArray) : ∀ {bs : List Bd} {k : Nat} {x : Bd}, bs[k]? = some x → (bs.take k).any (stQ nm true) = false → stQ nm true x = true → bs.set k ⟨x.p, emp⟩ = evBs nm bs
  | [], k, x, h, _, _ => by simp at h
  | y :: bs, 0, x, h, _, h3 => by
    obtain rfl : y = x := by simpa using h
    exact (if_pos h3).symm
  | y :: bs, k + 1, x, h, h2, h3 => by
    rw [List.take_succ_cons, List.any_cons, Bool.or_eq_false_iff] at h2
    have ih := ev_at nm (bs := bs) (k := k) (x := x) (by simpa using h) h2.2 h3
    have e : evBs nm (y :: bs) = y :: evBs nm bs := if_neg (by rw [h2.1]; exact Bool.false_ne_true)
    rw [List.set_cons_succ, ih, e]
theorem ev_len (nm : ByteArray) : ∀ (bs : List Bd), (evBs nm bs).length = bs.length
  | [] => rfl
  | b :: bs => by
    unfold evBs
    split
    · rfl
    · rw [List.length_cons, ev_len nm bs, List.length_cons]
set_option maxRecDepth 100000 in
set_option maxHeartbeats 8000000 in
theorem evict_no (d c : Option Addr) (kd kc : Nat) (l : List Bg) (bs : List Bd) (nm : ByteArray) (w : World) (hD : BA w d l) (hG : BndL w c bs) (hI : ∀ x ∈ bs, PodAt w x.p) (hl : bs.length ≤ 1000) (hlb : ∀ x ∈ bs, x.p.labs.length ≤ 1000) (hm : ¬ mayE l bs nm = 0) :
    Calls Try.prog 52 #[.slice d l.length kd, .slice c bs.length kc, .string nm] w fun e w' => e = .returned (.tuple #[.slice none 0 0, .int .i64 (mayE l bs nm)]) ∧ Below w.heap.size w w' := by
  have HM := Lib.hid (may_any d c kd kc l bs nm w hD hG hI hl hlb)
  obtain ⟨R, hR⟩ : ∃ R, mayE l bs nm = R := ⟨_, rfl⟩
  rw [hR] at HM hm ⊢
  have q0 : (R == 0) = false := by simpa using hm
  have q1 : (R != 0) = true := by simpa using hm
  have q2 : (R = 0) = False := eq_false hm
  clear hR hD hG hI hl hlb
  go_enter Try.func52, Try.ntmps52
  go_wp2_with (go_at_call 79; (with_reducible refine HM.out.mono ?_); rintro e w1 ⟨rfl, hb⟩; have HB1 := Lib.hid hb; clear hb)
  refine bodyPost_ret (v := .tuple #[.slice none 0 0, .int .i64 R]) (by simp [results, Try.results52, go_sem]) rfl ⟨rfl, HB1.out⟩
set_option maxRecDepth 100000 in
set_option maxHeartbeats 8000000 in
theorem evict_yes (d c : Option Addr) (kd kc : Nat) (l : List Bg) (bs : List Bd) (nm : ByteArray) (w : World) (hD : BA w d l) (hG : BndL w c bs) (hI : ∀ x ∈ bs, PodAt w x.p) (hl : bs.length ≤ 1000) (hlb : ∀ x ∈ bs, x.p.labs.length ≤ 1000) (hm : mayE l bs nm = 0) :
    Calls Try.prog 52 #[.slice d l.length kd, .slice c bs.length kc, .string nm] w fun e w' => (∃ a k, e = .returned (.tuple #[.slice a bs.length k, .int .i64 0]) ∧ BndL w' a (evBs nm bs)) ∧ Below w.heap.size w w' := by
  have HM := Lib.hid (may_any d c kd kc l bs nm w hD hG hI hl hlb)
  rw [hm] at HM
  have hf1 := fun V (hV : Below w.heap.size w V) => bfind_any c kc bs nm true V (hG.mono hV) (by omega)
  have hcl := fun V (hV : Below w.heap.size w V) => cbnd_any c kc bs V (hG.mono hV) (by omega)
  obtain ⟨k, x, e1, e2, e3, e4⟩ : ∃ (k : Nat) (x : Bd), bs[k]? = some x ∧ (bs.take k).any (stQ nm true) = false ∧ stQ nm true x = true ∧ bs.find? (stQ nm true) = some x := by
    rcases idx_find (stQ nm true) bs with ⟨e1, e2⟩ | h
    · exfalso
      unfold mayE at hm
      rw [e1] at hm
      dsimp only at hm
      split at hm <;> omega
    · exact h
  simp only [Lb.idx_at e1 e2 e3] at hf1
  have hev := ev_at nm e1 e2 e3
  have hk : k < bs.length := (List.getElem?_eq_some_iff.1 e1).1
  have HFs := Lib.hid (flat_set brow_len bs k x ⟨x.p, emp⟩ 20 (.string emp) e1 (by decide) rfl)
  rw [hev] at HFs
  have HL := Lib.hid (ev_len nm bs)
  obtain ⟨N, hN⟩ : ∃ N, bs.length = N := ⟨_, rfl⟩
  obtain ⟨n, hn⟩ : ∃ n, l.length = n := ⟨_, rfl⟩
  have HN := Lib.hid hN
  unfold OwnL at hcl
  rw [hN] at hf1 hcl HM hk hl HL ⊢
  rw [hn] at HM ⊢
  have HF1 := Lib.hid hf1
  have HCl := Lib.hid hcl
  clear hf1 hcl hm hD hG hI hlb e1 e2 e3 e4 hev hN hn
  go_enter Try.func52, Try.ntmps52
  go_upto_region 5 with (first
    | (go_at_call 79; (with_reducible refine HM.out.mono ?_); rintro e w1 ⟨rfl, hb⟩; have HB1 := Lib.hid hb; clear hb)
    | (go_at_call 80; (with_reducible refine (HCl.out _ HB1.out).mono ?_); rintro e w2 ⟨⟨v, rfl, hv⟩, hb⟩; obtain ⟨g, cap, rfl, hg, hgl⟩ := World.ownsRow.form hv (by omega); have HO2 := Lib.hid hv; have HB2 := Lib.hid (HB1.out.trans (hb.mono HB1.out.size)); have hgw := Nat.le_trans HB1.out.size hg; clear hb hv hg))
  go_wp2_with (go_at_call 81; (with_reducible refine (HF1.out _ HB2.out).mono ?_); rintro e w3 ⟨rfl, hb⟩; have HO3 := Lib.hid (own_kept HO2.out hb); have HB3 := Lib.hid (HB2.out.trans (hb.mono HB2.out.size)); have hg3 := Nat.lt_of_lt_of_le hgl hb.size; obtain ⟨uc, hcell⟩ := Lb.own_cell HO3.out (k * 21 + 20) (by omega); have hfz := World.ownsRow.frozenAt HO3.out (k * 21 + 20); clear hb)
  have HS := Lib.hid (World.ownsRow.stored HO3.out (k * 21 + 20) (.string emp)).1
  refine bodyPost_ret (v := .tuple #[.slice (some ⟨g, 0, none⟩) N cap, .int .i64 0]) (by simp [results, Try.results52, go_sem]) rfl ⟨⟨_, _, rfl, ?_⟩, HB3.out.setCell hgw _⟩
  have h9 := HS.out
  rw [HFs.out, ← HL.out] at h9
  obtain ⟨_, _, e9, -, hr⟩ := IsL.of_own brow_len (by decide) h9
  injection e9 with e9
  subst e9
  exact hr
end Go.Proofs.Ytkmhicoimgpdlaa
