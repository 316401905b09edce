/-
  Budgets of the document: Evict.
-/
import Derived.Test.YtkmhicoimgpdlaaBf3
namespace Go.Proofs.Ytkmhicoimgpdlaa
open Go.RowKit
set_option linter.unusedVariables false
set_option linter.unusedSimpArgs false

set_option maxRecDepth 100000 in
set_option maxHeartbeats 8000000 in
theorem revict_no (d c : Option Addr) (kd kc : Nat) (l : List Bg) (bs : List Bd) (nm : ByteArray) (w : World) (hD : BA w d l) (hG : BndL w c bs) (hI : ∀ x ∈ bs, PodAt w x.p) (hO : BO bs) (hm : ¬ mayE l bs nm = 0) :
    Calls Try.prog 14 #[.slice d l.length kd, .slice c bs.length kc, .string nm] w fun e w' => e = .returned (.tuple #[.slice none 0 0, .int .i64 (mayE l bs nm)]) ∧ Below w.heap.size w w' := by
  have HM := Lib.hid (rmay_any d c kd kc l bs nm w hD hG hI hO)
  obtain ⟨R, hR⟩ : ∃ R, mayE l bs nm = R := ⟨_, rfl⟩
  rw [hR] at HM hm ⊢
  have q0 : (R == 0) = false := by simpa using hm
  have q1 : (R != 0) = true := by simpa using hm
  have q2 : (R = 0) = False := eq_false hm
  clear hR hD hG hI hO
  go_enter Try.func14, Try.ntmps14
  go_wp2_with (go_at_call 35; (with_reducible refine HM.out.mono ?_); rintro e w1 ⟨rfl, hb⟩; have HB1 := Lib.hid hb; clear hb)
  refine bodyPost_ret (v := .tuple #[.slice none 0 0, .int .i64 R]) (by simp [results, Try.results14, go_sem]) rfl ⟨rfl, HB1.out⟩
set_option maxRecDepth 100000 in
set_option maxHeartbeats 8000000 in
theorem revict_yes (d c : Option Addr) (kd kc : Nat) (l : List Bg) (bs : List Bd) (nm : ByteArray) (w : World) (hD : BA w d l) (hG : BndL w c bs) (hI : ∀ x ∈ bs, PodAt w x.p) (hO : BO bs) (hm : mayE l bs nm = 0) :
    Calls Try.prog 14 #[.slice d l.length kd, .slice c bs.length kc, .string nm] w fun e w' => (∃ a k, e = .returned (.tuple #[.slice a bs.length k, .int .i64 0]) ∧ BndL w' a (evBs nm bs)) ∧ Below w.heap.size w w' := by
  have hl := hO.ln
  have HM := Lib.hid (rmay_any d c kd kc l bs nm w hD hG hI hO)
  rw [hm] at HM
  have hf1 := fun V (hV : Below w.heap.size w V) => rplace_any c kc bs nm V (hG.mono hV) (by omega)
  obtain ⟨k, x, e1, ef, e2, e3⟩ : ∃ (k : Nat) (x : Bd), bs[k]? = some x ∧ findN (bs.map pnm) nm 0 = k ∧ (bs.take k).any (stQ nm true) = false ∧ stQ nm true x = true := by
    rcases place_cases (l := l) hO.tw nm with ⟨-, h⟩ | ⟨k, x, h1, h2, ⟨-, h⟩ | ⟨-, h3, h4, h⟩⟩
    · rw [hm] at h
      omega
    · rw [hm] at h
      omega
    · exact ⟨k, x, h1, h2, h3, h4⟩
  rw [ef] at hf1
  have hev := ev_at nm e1 e2 e3
  have hk : k < bs.length := (List.getElem?_eq_some_iff.1 e1).1
  have HFs := Lib.hid (flat_set brow_len bs k x ⟨x.p, emp⟩ 20 (.string emp) e1 (by decide) rfl)
  rw [hev] at HFs
  have HL := Lib.hid (ev_len nm bs)
  have HLn := Lib.hid (rows_length brow 21 brow_len bs)
  obtain ⟨q, o, rfl, hq, -⟩ := hG (by omega)
  have HG := Lib.hid hG
  obtain ⟨N, hN⟩ : ∃ N, bs.length = N := ⟨_, rfl⟩
  obtain ⟨n, hn⟩ : ∃ n, l.length = n := ⟨_, rfl⟩
  rw [hN] at hf1 HM hk hl HL HLn ⊢
  rw [hn] at HM ⊢
  have HF1 := Lib.hid hf1
  have H63 := Lib.hid (show 0 + N ≤ maxLen by unfold maxLen; omega)
  have H64 := Lib.hid (show (0 + N) * 288 ≤ 140737488355328 by omega)
  clear hf1 hm hD hG hI hO e1 e2 e3 ef hev hN hn
  obtain ⟨i0, hi, hz0, hz1, hz2⟩ := info_parts Try.info64
  have Hi := Lib.hid hi
  have Hz0 := Lib.hid hz0
  have Hz1 := Lib.hid hz1
  have Hz2 := Lib.hid hz2
  clear hi hz0 hz1 hz2
  go_enter Try.func14, Try.ntmps14
  go_upto_region 6 with (first
    | (go_at_call 35; (with_reducible refine HM.out.mono ?_); rintro e w1 ⟨rfl, hb⟩; have HB1 := Lib.hid hb; clear hb)
    | (at_builtin; refine wpList_append_src rfl (.tmp 17) (.tmp 18) 23 rfl w.heap.size 64 i0 _ 21 288 Try.underlying23 Hi.out Hz0.out Hz1.out Hz2.out rfl (by decide) _ 0 [] rfl (World.ownsRow_nil _ _ _ _) (some ⟨q, o, none⟩) N kc (bs.flatMap brow) rfl HLn.out (RowsAt.news brow_len (HG.out.mono HB1.out)) (fun e => by cases e) (flat_ones brow_one bs) H63.out H64.out HB1.out.size ?_; intro v2 w2 hown2 hgrow2; rw [Nat.zero_add, List.nil_append] at hown2; obtain ⟨g, cap, rfl, hg, hgl⟩ := World.ownsRow.form hown2 (by omega); have HO2 := Lib.hid hown2; have HB2 := Lib.hid (own_below (World.ownsRow_nil w1 w.heap.size 64 21) HB1.out HB1.out.size hgrow2); clear hown2 hgrow2))
  go_wp2_with (go_at_call 36; (with_reducible refine (HF1.out _ HB2.out).mono ?_); rintro e w3 ⟨rfl, hb⟩; have HO3 := Lib.hid (own_kept HO2.out hb); have HB3 := Lib.hid (HB2.out.trans (hb.mono HB2.out.size)); have hg3 := Nat.lt_of_lt_of_le hgl hb.size; obtain ⟨uc, hcell⟩ := Lb.own_cell HO3.out (k * 21 + 20) (by omega); have hfz := World.ownsRow.frozenAt HO3.out (k * 21 + 20); clear hb)
  have HS := Lib.hid (World.ownsRow.stored HO3.out (k * 21 + 20) (.string emp)).1
  refine bodyPost_ret (v := .tuple #[.slice (some ⟨g, 0, none⟩) N cap, .int .i64 0]) (by simp [results, Try.results14, go_sem]) rfl ⟨⟨_, _, rfl, ?_⟩, HB3.out.setCell hg _⟩
  have h9 := HS.out
  rw [HFs.out, ← HL.out] at h9
  obtain ⟨_, _, e9, -, hr⟩ := IsL.of_own brow_len (by decide) h9
  injection e9 with e9
  subst e9
  exact hr
end Go.Proofs.Ytkmhicoimgpdlaa
