/-
  The program's provider: copies of pools; Copy.
-/
import Derived.Test.YtcfdejlbchdciaaGreatDoorClW
namespace Go.Proofs.YtcfdejlbchdciaaGreatDoor
open Go.RowKit
set_option linter.unusedVariables false
set_option linter.unusedSimpArgs false

theorem prow_one (x : Pl) : ∀ u ∈ prow x, u.oneCell' = true := by
  intro u hu
  simp [prow] at hu
  rcases hu with rfl | rfl | rfl <;> rfl

set_option maxRecDepth 100000 in
set_option maxHeartbeats 4000000 in
theorem clonep_any (c : Option Addr) (kc : Nat) (xs : List Pl) (w : World) (hF : RowsAt prow 3 w c xs) (hok : NilOk c xs.length kc) (hm : xs.length ≤ 1000000) :
    Calls Tryz.prog 54 #[.slice c xs.length kc] w (Gives w (OwnL prow 3 w.heap.size 74 xs)) := by
  have HF := Lib.hid hF
  have Hok := Lib.hid hok
  clear hF
  obtain ⟨i0, hi, hz0, hz1, hz2⟩ := info_parts Tryz.info74
  have Hi := Lib.hid hi
  have Hz0 := Lib.hid hz0
  have Hz1 := Lib.hid hz1
  have Hz2 := Lib.hid hz2
  clear hi hz0 hz1 hz2
  cases c with
  | none =>
    obtain ⟨h1, h2⟩ := hok rfl
    obtain rfl : xs = [] := List.eq_nil_of_length_eq_zero h1
    clear h1 hok
    subst h2
    have hq : ∀ V : World, (binOp .eql 58 (.slice none 0 0) (.slice none 0 0)).run Tryz.prog V = .ok (.bool true) V := fun V => Lib.run_eql_slice_nil V _ _ none 0 0 0 0 Tryz.underlying58
    go_enter Tryz.func54, Tryz.ntmps54
    go_wp2
    refine bodyPost_ret (v := .slice none 0 0) (by simp [results, Tryz.results54, go_sem]) rfl ⟨⟨_, rfl, World.ownsRow_nil _ _ _ _⟩, by (repeat' (first | with_reducible exact Below.refl _ _ | with_reducible assumption | with_reducible refine Below.drew ?_ | with_reducible refine below_drewN' ?_ _ | with_reducible refine Below.alloc ?_ ?_ _ | with_reducible refine Below.setCell ?_ ?_ _ | with_reducible refine below_step (by assumption) ?_ ?_ | omega | (simp; done) | (simp; omega)))⟩
  | some q =>
    clear hok
    have hc3 : 0 + xs.length ≤ maxLen := by unfold maxLen; omega
    have hc4 : (0 + xs.length) * 24 ≤ 140737488355328 := by omega
    have hq : ∀ V : World, (binOp .eql 58 (.slice (some q) xs.length kc) (.slice none 0 0)).run Tryz.prog V = .ok (.bool false) V := fun V => Lib.run_eql_slice_nil V _ _ (some q) _ _ 0 0 Tryz.underlying58
    go_enter Tryz.func54, Tryz.ntmps54
    go_wp2_with (at_builtin; refine wpList_append_src rfl (.tmp 5) (.tmp 6) 58 rfl w.heap.size 74 i0 _ 3 24 Tryz.underlying58 Hi.out Hz0.out Hz1.out Hz2.out rfl (by decide) _ 0 [] rfl (World.ownsRow_made w #[] 0 (Nat.le_refl w.heap.size) (Nat.zero_le _) rfl) (some q) xs.length kc (xs.flatMap prow) rfl (rows_length prow 3 prow_len xs) (RowsAt.news prow_len (HF.out.mono ((Below.refl _ w).alloc (Nat.le_refl _) _))) Hok.out (flat_ones prow_one xs) hc3 hc4 (le_alloc (Nat.le_refl w.heap.size) _) ?_; intro v1 w3 hown1 hgrow1; rw [Nat.zero_add, List.nil_append] at hown1; have HB3 := Lib.hid (own_below (World.ownsRow_made w #[] 0 (Nat.le_refl w.heap.size) (Nat.zero_le _) rfl : (w.alloc (.cells #[] 74)).ownsRow w.heap.size 74 3 (.slice (some ⟨w.heap.size, 0, none⟩) 0 0) 0 []) ((Below.refl _ w).alloc (Nat.le_refl w.heap.size) _) (le_alloc (Nat.le_refl w.heap.size) _) hgrow1); have HO3 := Lib.hid hown1; clear hown1 hgrow1)
    refine bodyPost_ret (v := v1) (by simp [results, Tryz.results54, go_sem]) rfl ⟨⟨_, rfl, HO3.out⟩, HB3.out⟩

theorem own_only {w w' : World} {S : List Nat} {B B' : Nat} {v : Value} {n k : Nat} {e : TypeId} {xs : List Value} (h : w.ownsRow B e k v n xs) (ho : Only S w w') (hS : ∀ z ∈ S, ∃ t, TyAt w z t ∧ t ≠ e) (hB : B' ≤ B) : w'.ownsRow B' e k v n xs := by
  have h1 := own_same (w' := w') h fun g hg => ho.block g (own_lt h hg).2 (fun hm => by
    obtain ⟨t, h1, h2⟩ := hS g hm
    exact (own_ty h hg).ne h1 (fun e => h2 e.symm) rfl)
  rcases h1 with ⟨q0, q | ⟨g, cap, cur, q1, q2, q3⟩⟩
  · exact ⟨q0, .inl q⟩
  · exact ⟨q0, .inr ⟨g, cap, cur, q1, Nat.le_trans hB q2, q3⟩⟩

set_option maxRecDepth 100000 in
set_option maxHeartbeats 8000000 in
theorem ccopy_any (base b : Nat) (G : List Gp) (s : CS) (gv pv lv : Value) (w : World) (h : CT w base b G s gv pv lv) (hgl : GL G) (hG : G.length ≤ 1000) (hP : s.P.length ≤ 1000) (hL : s.L.length ≤ 1000000) :
    Calls Tryz.prog 33 #[.pointer (some ⟨b, 0, none⟩)] w fun e w' => (∃ X C gv' pv' lv', e = .returned (.pointer (some ⟨X, 0, none⟩)) ∧ CT w' w.heap.size X C s gv' pv' lv' ∧ GL C) ∧ Below w.heap.size w w' := by
  have hrow := h.row
  have hbl := h.row.lt
  have Hgk := Lib.hid h.gk
  have hms : ∀ g ∈ G, MacIn w g.like := fun g hg => mo_sizes (h.ms g hg) (hgl g hg).1 (hgl g hg).2
  obtain ⟨ga, gk, hgv, hGF⟩ := h.groups
  obtain ⟨pa, pk, hpv, -⟩ := own_rows prow_len h.po (by decide)
  obtain ⟨la, lk, hlv, hI⟩ := h.insts
  subst hgv
  subst hpv
  subst hlv
  have HIL := Lib.hid (h.list la lk rfl)
  have HPL : RowsAt prow 3 w pa s.P := by
    obtain ⟨a', k', e, _, hr⟩ := OwnL.isL prow_len (by decide) (show OwnL prow 3 base 74 s.P _ w from h.po)
    injection e with e1 e2 e3
    rw [e1]
    exact hr
  have Hgl := Lib.hid hgl
  have HG := Lib.hid (fun V (hV : Below w.heap.size w V) => groups_any ga gk G V (hGF.mono hV) (fun g hg => (hms g hg).mono hV) hgl (by omega))
  have HP := Lib.hid (fun V (hV : Below w.heap.size w V) => clonep_any pa pk s.P V (HPL.mono hV) (own_nilok h.po) (by omega))
  have HI := Lib.hid (fun V (hV : Below w.heap.size w V) => clonei_any la lk s.L V (HIL.out.mono hV) (own_nilok h.lo) hL)
  obtain ⟨gn, hgn⟩ : ∃ gn, G.length = gn := ⟨_, rfl⟩
  obtain ⟨pn, hpn⟩ : ∃ pn, s.P.length = pn := ⟨_, rfl⟩
  obtain ⟨ln, hln⟩ : ∃ ln, s.L.length = ln := ⟨_, rfl⟩
  have Hgn := Lib.hid hgn
  rw [hgn] at hrow HG
  rw [hpn] at hrow HP
  rw [hln] at hrow HI
  have c0 := hrow.cell 0
  have c1 := hrow.cell 1
  have c2 := hrow.cell 2
  have c3 := hrow.cell 3
  dsimp only [List.getElem?_cons_zero, List.getElem?_cons_succ] at c0 c1 c2 c3
  have Hrow := Lib.hid hrow
  obtain ⟨dl, hdl⟩ : ∃ x, s.dl = x := ⟨_, rfl⟩
  obtain ⟨nw, hnw⟩ : ∃ x, s.nw = x := ⟨_, rfl⟩
  obtain ⟨ca, hca⟩ : ∃ x, s.ca = x := ⟨_, rfl⟩
  rw [hdl, hnw, hca] at Hrow
  have Hs := Lib.hid (show s.dl = dl ∧ s.nw = nw ∧ s.ca = ca ∧ s.P.length = pn ∧ s.L.length = ln from ⟨hdl, hnw, hca, hpn, hln⟩)
  have hxb : ∀ k, w.heap.size ≤ k → b ≠ k := fun k hk => by omega
  have hxb0 := hxb _ (Nat.le_refl _)
  clear h hms hGF hI HPL hgl hG hP hL hgn hpn hln hrow hdl hnw hca
  go_enter Tryz.func33, Tryz.ntmps33
  go_wp2_with (first
    | (go_at_call 35; (with_reducible refine (made_yes b _ c0).mono ?_); rintro e w1 ⟨rfl, hw9⟩; subst w1)
    | ((with_reducible refine at_load (ty := 60) ?_); refine load_cells rfl 60 (.tmp 8) rfl b 0 rfl [.pointer (some ⟨b, 0, none⟩), .slice ga gn gk, .slice pa pn pk, .slice la ln lk, .int .i64 dl, .int .i64 nw, .int .i64 ca] _ Tryz.underlying60 rfl (by kernel_rfl) (Blk.range Hrow.out 0 _ rfl) ?_)
    | ((with_reducible refine at_store (ty := 60) ?_); refine store_new rfl 60 (.tmp 3) (.tmp 9) rfl _ _ rfl rfl (by kernel_rfl) rfl (by rfl) rfl ?_)
    | (go_at_call 21; (with_reducible refine (HG.out _ (by (repeat' (first | with_reducible exact Below.refl _ _ | with_reducible assumption | with_reducible refine Below.drew ?_ | with_reducible refine below_drewN' ?_ _ | with_reducible refine Below.alloc ?_ ?_ _ | with_reducible refine Below.setCell ?_ ?_ _ | with_reducible refine below_step (by assumption) ?_ ?_ | omega | (simp; done) | (simp; omega))))).mono ?_); rintro e w2 ⟨⟨v2, C, rfl, hC, hO, hM⟩, hb2⟩; have HC := Lib.hid hC; have HO := Lib.hid hO; have HM := Lib.hid hM; have HB2 := Lib.hid hb2; have HW2 := Lib.hid (show Below w.heap.size w w2 by (repeat' (first | with_reducible exact Below.refl _ _ | with_reducible assumption | with_reducible refine Below.drew ?_ | with_reducible refine below_drewN' ?_ _ | with_reducible refine Below.alloc ?_ ?_ _ | with_reducible refine Below.setCell ?_ ?_ _ | with_reducible refine below_step (by assumption) ?_ ?_ | omega | (simp; done) | (simp; omega)))); have HX2 := Lib.hid ((Blk.new w 60 [.pointer (some ⟨w.heap.size, 0, none⟩), .slice ga gn gk, .slice pa pn pk, .slice la ln lk, .int .i64 dl, .int .i64 nw, .int .i64 ca]).below hb2); have f21 := HX2.out.frozen 1; have x21 := HX2.out.cell 1; dsimp only [List.getElem?_cons_zero, List.getElem?_cons_succ] at x21; obtain ⟨sv, kv, rfl, _⟩ := own_rows grow_len hO (by decide); obtain ⟨hc2, hf2⟩ := bcell hb2; have hz2 := hb2.size; (try simp at hz2); clear hC hO hM hb2)
    | (go_at_call 54; (with_reducible refine (HP.out _ (HW2.out.setCell (by simp) _)).mono ?_); rintro e w3 ⟨⟨v3, rfl, hO⟩, hb3⟩; have HO3 := Lib.hid hO; have HB3 := Lib.hid hb3; have HW3 := Lib.hid ((HW2.out.setCell (p := ⟨w.heap.size, 1, none⟩) (Nat.le_refl _) _).trans (hb3.mono (by (try simp only [World.size_setCell]); exact HW2.out.size))); have HX3 := Lib.hid ((HX2.out.set 1 (.slice sv C.length kv)).below hb3); have f32 := HX3.out.frozen 2; have x32 := HX3.out.cell 2; dsimp only [List.getElem?_cons_zero, List.getElem?_cons_succ, List.set_cons_zero, List.set_cons_succ] at x32; have y3 : w3.cell? ⟨b, 3, none⟩ = _ := (HW3.out.cell (p := ⟨b, 3, none⟩) hbl).trans c3; obtain ⟨sv3, kv3, rfl, _⟩ := own_rows prow_len hO (by decide); obtain ⟨hc3, hf3⟩ := bcell hb3; have hz3 := hb3.size; (try simp at hz3); clear hO hb3)
    | (go_at_call 36; (with_reducible refine (HI.out _ (HW3.out.setCell (by simp) _)).mono ?_); rintro e w4 ⟨⟨v4, rfl, hO⟩, hb4⟩; have HO4 := Lib.hid hO; have HB4 := Lib.hid hb4; have HW4 := Lib.hid ((HW3.out.setCell (p := ⟨w.heap.size, 2, none⟩) (Nat.le_refl _) _).trans (hb4.mono (by (try simp only [World.size_setCell]); exact HW3.out.size))); have HX4 := Lib.hid ((HX3.out.set 2 (.slice sv3 s.P.length kv3)).below hb4); have f43 := HX4.out.frozen 3; have x43 := HX4.out.cell 3; dsimp only [List.getElem?_cons_zero, List.getElem?_cons_succ, List.set_cons_zero, List.set_cons_succ] at x43; obtain ⟨sv4, kv4, rfl, _⟩ := own_rows irow_len hO (by decide); obtain ⟨hc4, hf4⟩ := bcell hb4; have hz4 := hb4.size; (try simp at hz4); clear hO hb4))
  refine bodyPost_ret (v := .pointer (some ⟨w.heap.size, 0, none⟩)) (by simp [results, Tryz.results33, go_sem]) rfl ?_
  obtain ⟨e1, e2, e3, e4, e5⟩ := Hs.out
  have ho2 : Only [w.heap.size] w2 (w4.setCell ⟨w.heap.size, 3, none⟩ (.slice sv4 s.L.length kv4)) := (((((Only.refl _ w2).setCell (p := ⟨w.heap.size, 1, none⟩) (.inl (by simp)) _).trans (Only.of_below HB3.out)).setCell (p := ⟨w.heap.size, 2, none⟩) (.inl (by simp)) _).trans (Only.of_below HB4.out)).setCell (p := ⟨w.heap.size, 3, none⟩) (.inl (by simp)) _
  have ho3 : Only [w.heap.size] w3 (w4.setCell ⟨w.heap.size, 3, none⟩ (.slice sv4 s.L.length kv4)) := (((Only.refl _ w3).setCell (p := ⟨w.heap.size, 2, none⟩) (.inl (by simp)) _).trans (Only.of_below HB4.out)).setCell (p := ⟨w.heap.size, 3, none⟩) (.inl (by simp)) _
  have ho4 : Only [w.heap.size] w4 (w4.setCell ⟨w.heap.size, 3, none⟩ (.slice sv4 s.L.length kv4)) := (Only.refl _ w4).setCell (p := ⟨w.heap.size, 3, none⟩) (.inl (by simp)) _
  have t2 := blk_ty HX2.out
  have t3 := blk_ty HX3.out
  have t4 := blk_ty HX4.out
  have z1 : w.heap.size ≤ (w.alloc (.cells #[.pointer (some ⟨w.heap.size, 0, none⟩), .slice ga gn gk, .slice pa pn pk, .slice la ln lk, .int .i64 dl, .int .i64 nw, .int .i64 ca] 60)).heap.size := le_alloc (Nat.le_refl _) _
  have z2 := HW2.out.size
  have z3 := HW3.out.size
  have z4 := HW4.out.size
  refine ⟨⟨w.heap.size, C, _, _, _, rfl, ⟨?_, own_only HO.out ho2 (fun z hz => ⟨60, by rw [List.mem_singleton.1 hz]; exact t2, by decide⟩) z1, own_only HO3.out ho3 (fun z hz => ⟨60, by rw [List.mem_singleton.1 hz]; exact t3, by decide⟩) (by rw [World.size_setCell]; exact z2), own_only HO4.out ho4 (fun z hz => ⟨60, by rw [List.mem_singleton.1 hz]; exact t4, by decide⟩) (by rw [World.size_setCell]; exact z3), fun g hg => ⟨own_only (HM.out g hg).l ho2 (fun z hz => ⟨60, by rw [List.mem_singleton.1 hz]; exact t2, by decide⟩) z1, own_only (HM.out g hg).t ho2 (fun z hz => ⟨60, by rw [List.mem_singleton.1 hz]; exact t2, by decide⟩) z1⟩, (nrm_gk HC.out).trans Hgk.out, Nat.le_refl _⟩, Hgl.out.nrm HC.out⟩, HW4.out.setCell (Nat.le_refl _) _⟩
  have h9 := HX4.out.set 3 (.slice sv4 s.L.length kv4)
  rw [e1, e2, e3]
  exact h9
end Go.Proofs.YtcfdejlbchdciaaGreatDoor
