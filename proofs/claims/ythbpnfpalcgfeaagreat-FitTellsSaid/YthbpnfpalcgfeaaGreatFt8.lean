/-
  Copies of lists and of terms.
-/
import Derived.Test.YthbpnfpalcgfeaaGreatMD
import Derived.Test.YthbpnfpalcgfeaaGreatFt7
namespace Go.Proofs.YthbpnfpalcgfeaaGreat
open Go.RowKit
set_option linter.unusedVariables false
set_option linter.unusedSimpArgs false

/-- A result that lies in a block of its own. -/
theorem results_blk {P : Program} {fn : Func} {tmps : Array Value} {w : World} {s g : Nat} {t t' : TypeId} {cs : List Value} {d : TypeDesc} (hf : fn.results = #[ResultVar.cell s t]) (ht : tmps.getD s undef = .pointer (some ⟨g, 0, none⟩)) (hb : Blk w g t' cs)
    (hu : P.underlying t = some d) (hd : d.isRow = true) (hi : (P.info? t).map (·.size) = some cs.length) : (results fn tmps).run P w = .ok (.agg cs.toArray) w := by
  have h9 := run_loadVar_mid (P := P) w g 0 t cs d (fun j v hj => by rw [Nat.zero_add, hb.cell]; exact hj) hu hd hi
  have ht' : tmps[s]?.getD undef = .pointer (some ⟨g, 0, none⟩) := by simpa using ht
  unfold results
  rw [hf]
  simp [go_sem] at h9
  simp [go_sem, ht']
  exact h9
theorem Tryz.info61 : (Tryz.prog.info? 61).map (fun i => (i.zero, i.size, i.bytes)) = some (some (.agg #[.string ⟨#[]⟩, .int .i64 0, .slice none 0 0]), 3, 48) := by kernel_rfl
theorem trcs_one (x : Lb.Trm) : ∀ u ∈ Lb.trcs x, u.oneCell' = true := by
  intro u hu
  simp [Lb.trcs] at hu
  rcases hu with rfl | rfl | rfl <;> rfl
open Lb in
set_option maxRecDepth 100000 in
set_option maxHeartbeats 4000000 in
theorem clab_any (c : Option Addr) (kc : Nat) (xs : List Lab) (w : World) (hF : LabL w c xs) (hm : xs.length ≤ 1000000) :
    Calls Tryz.prog 59 #[.slice c xs.length kc] w (Gives w (OwnL kcs 2 w.heap.size 71 xs)) := by
  have HF := Lib.hid hF
  clear hF
  obtain ⟨i0, hi, hz0, hz1, hz2⟩ := info_parts Tryz.info71
  have Hi := Lib.hid hi
  have Hz0 := Lib.hid hz0
  have Hz1 := Lib.hid hz1
  have Hz2 := Lib.hid hz2
  clear hi hz0 hz1 hz2
  cases c with
  | none =>
    obtain rfl : xs = [] := by
      cases xs with
      | nil => rfl
      | cons x xs =>
        obtain ⟨b, o, e, -⟩ := HF.out (Nat.succ_pos _)
        cases e
    have hq : ∀ V : World, (binOp .eql 26 (.slice none 0 kc) (.slice none 0 0)).run Tryz.prog V = .ok (.bool true) V := fun V => Lib.run_eql_slice_nil V _ _ none 0 kc 0 0 Tryz.underlying26
    go_enter Tryz.func59, Tryz.ntmps59
    go_wp2
    refine bodyPost_ret (v := .slice none 0 0) (by simp [results, Tryz.results59, go_sem]) rfl ⟨⟨_, rfl, World.ownsRow_nil _ _ _ _⟩, by (repeat' (first | with_reducible exact Below.refl _ _ | with_reducible assumption | with_reducible refine Below.drew ?_ | with_reducible refine below_drewN' ?_ _ | with_reducible refine Below.alloc ?_ ?_ _ | with_reducible refine Below.setCell ?_ ?_ _ | with_reducible refine below_step (by assumption) ?_ ?_ | omega | (simp; done) | (simp; omega)))⟩
  | some q =>
    have hc3 : 0 + xs.length ≤ maxLen := by unfold maxLen; omega
    have hc4 : (0 + xs.length) * 32 ≤ 140737488355328 := by omega
    have hq : ∀ V : World, (binOp .eql 26 (.slice (some q) xs.length kc) (.slice none 0 0)).run Tryz.prog V = .ok (.bool false) V := fun V => Lib.run_eql_slice_nil V _ _ (some q) _ _ 0 0 Tryz.underlying26
    go_enter Tryz.func59, Tryz.ntmps59
    go_wp2_with (at_builtin; refine wpList_append_src rfl (.tmp 5) (.tmp 6) 26 rfl w.heap.size 71 i0 _ 2 32 Tryz.underlying26 Hi.out Hz0.out Hz1.out Hz2.out rfl (by decide) _ 0 [] rfl (World.ownsRow_made w #[] 0 (Nat.le_refl w.heap.size) (Nat.zero_le _) rfl) (some q) xs.length kc (xs.flatMap kcs) rfl (rows_length kcs 2 kcs_len xs) (RowsAt.news kcs_len (HF.out.mono ((Below.refl _ w).alloc (Nat.le_refl _) _))) (fun e => by cases e) (flat_ones Lb.kcs_one xs) hc3 hc4 (le_alloc (Nat.le_refl w.heap.size) _) ?_; intro v1 w3 hown1 hgrow1; rw [Nat.zero_add, List.nil_append] at hown1; have HB3 := Lib.hid (own_below (World.ownsRow_made w #[] 0 (Nat.le_refl w.heap.size) (Nat.zero_le _) rfl : (w.alloc (.cells #[] 71)).ownsRow w.heap.size 71 2 (.slice (some ⟨w.heap.size, 0, none⟩) 0 0) 0 []) ((Below.refl _ w).alloc (Nat.le_refl w.heap.size) _) (le_alloc (Nat.le_refl w.heap.size) _) hgrow1); have HO3 := Lib.hid hown1; clear hown1 hgrow1)
    refine bodyPost_ret (v := v1) (by simp [results, Tryz.results59, go_sem]) rfl ⟨⟨_, rfl, HO3.out⟩, HB3.out⟩
set_option maxRecDepth 100000 in
set_option maxHeartbeats 4000000 in
theorem ctol_any (c : Option Addr) (kc : Nat) (xs : List Tol) (w : World) (hF : TolsAt w c xs) (hm : xs.length ≤ 1000000) :
    Calls Tryz.prog 61 #[.slice c xs.length kc] w (Gives w (OwnL ocs 4 w.heap.size 73 xs)) := by
  have HF := Lib.hid hF
  clear hF
  obtain ⟨i0, hi, hz0, hz1, hz2⟩ := info_parts Tryz.info73
  have Hi := Lib.hid hi
  have Hz0 := Lib.hid hz0
  have Hz1 := Lib.hid hz1
  have Hz2 := Lib.hid hz2
  clear hi hz0 hz1 hz2
  cases c with
  | none =>
    obtain rfl : xs = [] := by
      cases xs with
      | nil => rfl
      | cons x xs =>
        obtain ⟨b, o, e, -⟩ := HF.out (Nat.succ_pos _)
        cases e
    have hq : ∀ V : World, (binOp .eql 28 (.slice none 0 kc) (.slice none 0 0)).run Tryz.prog V = .ok (.bool true) V := fun V => Lib.run_eql_slice_nil V _ _ none 0 kc 0 0 Tryz.underlying28
    go_enter Tryz.func61, Tryz.ntmps61
    go_wp2
    refine bodyPost_ret (v := .slice none 0 0) (by simp [results, Tryz.results61, go_sem]) rfl ⟨⟨_, rfl, World.ownsRow_nil _ _ _ _⟩, by (repeat' (first | with_reducible exact Below.refl _ _ | with_reducible assumption | with_reducible refine Below.drew ?_ | with_reducible refine below_drewN' ?_ _ | with_reducible refine Below.alloc ?_ ?_ _ | with_reducible refine Below.setCell ?_ ?_ _ | with_reducible refine below_step (by assumption) ?_ ?_ | omega | (simp; done) | (simp; omega)))⟩
  | some q =>
    have hc3 : 0 + xs.length ≤ maxLen := by unfold maxLen; omega
    have hc4 : (0 + xs.length) * 48 ≤ 140737488355328 := by omega
    have hq : ∀ V : World, (binOp .eql 28 (.slice (some q) xs.length kc) (.slice none 0 0)).run Tryz.prog V = .ok (.bool false) V := fun V => Lib.run_eql_slice_nil V _ _ (some q) _ _ 0 0 Tryz.underlying28
    go_enter Tryz.func61, Tryz.ntmps61
    go_wp2_with (at_builtin; refine wpList_append_src rfl (.tmp 5) (.tmp 6) 28 rfl w.heap.size 73 i0 _ 4 48 Tryz.underlying28 Hi.out Hz0.out Hz1.out Hz2.out rfl (by decide) _ 0 [] rfl (World.ownsRow_made w #[] 0 (Nat.le_refl w.heap.size) (Nat.zero_le _) rfl) (some q) xs.length kc (xs.flatMap ocs) rfl (rows_length ocs 4 ocs_len xs) (RowsAt.news ocs_len (HF.out.mono ((Below.refl _ w).alloc (Nat.le_refl _) _))) (fun e => by cases e) (flat_ones ocs_one xs) hc3 hc4 (le_alloc (Nat.le_refl w.heap.size) _) ?_; intro v1 w3 hown1 hgrow1; rw [Nat.zero_add, List.nil_append] at hown1; have HB3 := Lib.hid (own_below (World.ownsRow_made w #[] 0 (Nat.le_refl w.heap.size) (Nat.zero_le _) rfl : (w.alloc (.cells #[] 73)).ownsRow w.heap.size 73 4 (.slice (some ⟨w.heap.size, 0, none⟩) 0 0) 0 []) ((Below.refl _ w).alloc (Nat.le_refl w.heap.size) _) (le_alloc (Nat.le_refl w.heap.size) _) hgrow1); have HO3 := Lib.hid hown1; clear hown1 hgrow1)
    refine bodyPost_ret (v := v1) (by simp [results, Tryz.results61, go_sem]) rfl ⟨⟨_, rfl, HO3.out⟩, HB3.out⟩
set_option maxRecDepth 100000 in
set_option maxHeartbeats 4000000 in
theorem cint_any (c : Option Addr) (kc : Nat) (xs : List Int) (w : World) (hF : IntL w c xs) (hm : xs.length ≤ 1000000) :
    Calls Tryz.prog 62 #[.slice c xs.length kc] w (Gives w (OwnL pcs 1 w.heap.size 3 xs)) := by
  have HF := Lib.hid hF
  clear hF
  obtain ⟨i0, hi, hz0, hz1, hz2⟩ := info_parts Tryz.info3
  have Hi := Lib.hid hi
  have Hz0 := Lib.hid hz0
  have Hz1 := Lib.hid hz1
  have Hz2 := Lib.hid hz2
  clear hi hz0 hz1 hz2
  cases c with
  | none =>
    obtain rfl : xs = [] := by
      cases xs with
      | nil => rfl
      | cons x xs =>
        obtain ⟨b, o, e, -⟩ := HF.out (Nat.succ_pos _)
        cases e
    have hq : ∀ V : World, (binOp .eql 29 (.slice none 0 kc) (.slice none 0 0)).run Tryz.prog V = .ok (.bool true) V := fun V => Lib.run_eql_slice_nil V _ _ none 0 kc 0 0 Tryz.underlying29
    go_enter Tryz.func62, Tryz.ntmps62
    go_wp2
    refine bodyPost_ret (v := .slice none 0 0) (by simp [results, Tryz.results62, go_sem]) rfl ⟨⟨_, rfl, World.ownsRow_nil _ _ _ _⟩, by (repeat' (first | with_reducible exact Below.refl _ _ | with_reducible assumption | with_reducible refine Below.drew ?_ | with_reducible refine below_drewN' ?_ _ | with_reducible refine Below.alloc ?_ ?_ _ | with_reducible refine Below.setCell ?_ ?_ _ | with_reducible refine below_step (by assumption) ?_ ?_ | omega | (simp; done) | (simp; omega)))⟩
  | some q =>
    have hc3 : 0 + xs.length ≤ maxLen := by unfold maxLen; omega
    have hc4 : (0 + xs.length) * 8 ≤ 140737488355328 := by omega
    have hq : ∀ V : World, (binOp .eql 29 (.slice (some q) xs.length kc) (.slice none 0 0)).run Tryz.prog V = .ok (.bool false) V := fun V => Lib.run_eql_slice_nil V _ _ (some q) _ _ 0 0 Tryz.underlying29
    go_enter Tryz.func62, Tryz.ntmps62
    go_wp2_with (at_builtin; refine wpList_append_src rfl (.tmp 5) (.tmp 6) 29 rfl w.heap.size 3 i0 _ 1 8 Tryz.underlying29 Hi.out Hz0.out Hz1.out Hz2.out rfl (by decide) _ 0 [] rfl (World.ownsRow_made w #[] 0 (Nat.le_refl w.heap.size) (Nat.zero_le _) rfl) (some q) xs.length kc (xs.flatMap pcs) rfl (rows_length pcs 1 pcs_len xs) (RowsAt.news pcs_len (HF.out.mono ((Below.refl _ w).alloc (Nat.le_refl _) _))) (fun e => by cases e) (flat_ones pcs_one xs) hc3 hc4 (le_alloc (Nat.le_refl w.heap.size) _) ?_; intro v1 w3 hown1 hgrow1; rw [Nat.zero_add, List.nil_append] at hown1; have HB3 := Lib.hid (own_below (World.ownsRow_made w #[] 0 (Nat.le_refl w.heap.size) (Nat.zero_le _) rfl : (w.alloc (.cells #[] 3)).ownsRow w.heap.size 3 1 (.slice (some ⟨w.heap.size, 0, none⟩) 0 0) 0 []) ((Below.refl _ w).alloc (Nat.le_refl w.heap.size) _) (le_alloc (Nat.le_refl w.heap.size) _) hgrow1); have HO3 := Lib.hid hown1; clear hown1 hgrow1)
    refine bodyPost_ret (v := v1) (by simp [results, Tryz.results62, go_sem]) rfl ⟨⟨_, rfl, HO3.out⟩, HB3.out⟩
set_option maxRecDepth 100000 in
set_option maxHeartbeats 4000000 in
theorem ctxt_any (c : Option Addr) (kc : Nat) (xs : List ByteArray) (w : World) (hF : TxtL w c xs) (hm : xs.length ≤ 1000000) :
    Calls Tryz.prog 91 #[.slice c xs.length kc] w (Gives w (OwnL scs 1 w.heap.size 9 xs)) := by
  have HF := Lib.hid hF
  clear hF
  obtain ⟨i0, hi, hz0, hz1, hz2⟩ := info_parts Tryz.info9
  have Hi := Lib.hid hi
  have Hz0 := Lib.hid hz0
  have Hz1 := Lib.hid hz1
  have Hz2 := Lib.hid hz2
  clear hi hz0 hz1 hz2
  cases c with
  | none =>
    obtain rfl : xs = [] := by
      cases xs with
      | nil => rfl
      | cons x xs =>
        obtain ⟨b, o, e, -⟩ := HF.out (Nat.succ_pos _)
        cases e
    have hq : ∀ V : World, (binOp .eql 39 (.slice none 0 kc) (.slice none 0 0)).run Tryz.prog V = .ok (.bool true) V := fun V => Lib.run_eql_slice_nil V _ _ none 0 kc 0 0 Tryz.underlying39
    go_enter Tryz.func91, Tryz.ntmps91
    go_wp2
    refine bodyPost_ret (v := .slice none 0 0) (by simp [results, Tryz.results91, go_sem]) rfl ⟨⟨_, rfl, World.ownsRow_nil _ _ _ _⟩, by (repeat' (first | with_reducible exact Below.refl _ _ | with_reducible assumption | with_reducible refine Below.drew ?_ | with_reducible refine below_drewN' ?_ _ | with_reducible refine Below.alloc ?_ ?_ _ | with_reducible refine Below.setCell ?_ ?_ _ | with_reducible refine below_step (by assumption) ?_ ?_ | omega | (simp; done) | (simp; omega)))⟩
  | some q =>
    have hc3 : 0 + xs.length ≤ maxLen := by unfold maxLen; omega
    have hc4 : (0 + xs.length) * 16 ≤ 140737488355328 := by omega
    have hq : ∀ V : World, (binOp .eql 39 (.slice (some q) xs.length kc) (.slice none 0 0)).run Tryz.prog V = .ok (.bool false) V := fun V => Lib.run_eql_slice_nil V _ _ (some q) _ _ 0 0 Tryz.underlying39
    go_enter Tryz.func91, Tryz.ntmps91
    go_wp2_with (at_builtin; refine wpList_append_src rfl (.tmp 5) (.tmp 6) 39 rfl w.heap.size 9 i0 _ 1 16 Tryz.underlying39 Hi.out Hz0.out Hz1.out Hz2.out rfl (by decide) _ 0 [] rfl (World.ownsRow_made w #[] 0 (Nat.le_refl w.heap.size) (Nat.zero_le _) rfl) (some q) xs.length kc (xs.flatMap scs) rfl (rows_length scs 1 scs_len xs) (RowsAt.news scs_len (HF.out.mono ((Below.refl _ w).alloc (Nat.le_refl _) _))) (fun e => by cases e) (flat_ones scs_one xs) hc3 hc4 (le_alloc (Nat.le_refl w.heap.size) _) ?_; intro v1 w3 hown1 hgrow1; rw [Nat.zero_add, List.nil_append] at hown1; have HB3 := Lib.hid (own_below (World.ownsRow_made w #[] 0 (Nat.le_refl w.heap.size) (Nat.zero_le _) rfl : (w.alloc (.cells #[] 9)).ownsRow w.heap.size 9 1 (.slice (some ⟨w.heap.size, 0, none⟩) 0 0) 0 []) ((Below.refl _ w).alloc (Nat.le_refl w.heap.size) _) (le_alloc (Nat.le_refl w.heap.size) _) hgrow1); have HO3 := Lib.hid hown1; clear hown1 hgrow1)
    refine bodyPost_ret (v := v1) (by simp [results, Tryz.results91, go_sem]) rfl ⟨⟨_, rfl, HO3.out⟩, HB3.out⟩
theorem own_same9 {w w' : World} {B : Nat} {v : Value} {n k : Nat} {e : TypeId} {xs : List Value} (h : w.ownsRow B e k v n xs) (hb : ∀ g, B ≤ g → g < w.heap.size → v.ownBlock = some g → (∃ cur, w.heap[g]? = some (.cells cur e)) → w'.heap[g]? = w.heap[g]?) : w'.ownsRow B e k v n xs := by
  refine ⟨h.1, ?_⟩
  rcases h.2 with h | ⟨g, cap, cur, rfl, h1, h2, h3⟩
  · exact .inl h
  · exact .inr ⟨g, cap, cur, rfl, h1, (hb g h1 (Array.getElem?_eq_some_iff.1 h2).1 rfl ⟨cur, h2⟩).trans h2, h3⟩
/-- A row that lies behind the blocks that turn stays. -/
theorem own_only {w w' : World} {B : Nat} {v : Value} {n k : Nat} {e : TypeId} {xs : List Value} {S : List Nat} (h : w.ownsRow B e k v n xs) (ho : Only S w w') (hS : ∀ g ∈ S, g < B) : w'.ownsRow B e k v n xs :=
  own_same9 h fun g h1 h2 _ _ => ho.block g h2 (fun hm => by have := hS g hm; omega)
/-- A row stays when one of another type grows. -/
theorem own_grown {w w' : World} {B B' : Nat} {v v' : Value} {n n' k k' : Nat} {e e' : TypeId} {xs xs' : List Value} (h : w.ownsRow B e k v n xs) (h' : w.ownsRow B' e' k' v' n' xs') (hne : e ≠ e') (hg : w.grownBy w' v'.ownBlock) : w'.ownsRow B e k v n xs :=
  own_same9 h fun g h1 h2 h3 ⟨cur, h4⟩ => hg.block g h2 (fun he => by
    rcases h'.2 with ⟨rfl, _⟩ | ⟨g', cap', cur', rfl, _, h6, _⟩
    · cases he
    · obtain rfl : g = g' := Option.some.inj he
      rw [h4] at h6
      injection h6 with h6
      injection h6 with _ h6
      exact hne h6)
/-- A term but for where its values lie. -/
def trmE (t : Lb.Trm) : Lb.Trm := ⟨t.key, t.op, none, 0, t.vals⟩
set_option maxRecDepth 100000 in
set_option maxHeartbeats 4000000 in
theorem term1_any (t : Lb.Trm) (w : World) (hT : Lb.TrmAt w t) (hm : t.vals.length ≤ 1000000) :
    Calls Tryz.prog 90 #[.agg #[.string t.key, .int .i64 t.op, .slice t.va t.vals.length t.vk]] w fun e w' => (∃ a k, e = .returned (.agg #[.string t.key, .int .i64 t.op, .slice a t.vals.length k]) ∧ w'.ownsRow w.heap.size 9 1 (.slice a t.vals.length k) t.vals.length (t.vals.flatMap scs)) ∧ Below w.heap.size w w' := by
  obtain ⟨key, op, va, vk, L⟩ := t
  dsimp only at hT hm ⊢
  have HT := Lib.hid hT.1
  clear hT
  go_enter Tryz.func90, Tryz.ntmps90
  go_upto_region 1 with (fail)
  obtain ⟨W, hW⟩ : ∃ W, W = (w.alloc (.cells #[.string key, .int .i64 op, .slice va L.length vk] 61)).alloc (.cells #[.string ⟨#[]⟩, .int .i64 0, .slice none 0 0] 61) := ⟨_, rfl⟩
  have hX : Blk W w.heap.size 61 [.string key, .int .i64 op, .slice va L.length vk] := by rw [hW]; exact (Blk.new w 61 _).alloc _
  have hR : Blk W (w.heap.size + 1) 61 [.string ⟨#[]⟩, .int .i64 0, .slice none 0 0] := by
    rw [hW]
    have h9 := Blk.new (w.alloc (.cells #[.string key, .int .i64 op, .slice va L.length vk] 61)) 61 [.string ⟨#[]⟩, .int .i64 0, .slice none 0 0]
    rw [World.size_alloc] at h9
    exact h9
  have hbw : Below w.heap.size w W := by rw [hW]; (repeat' (first | with_reducible exact Below.refl _ _ | with_reducible assumption | with_reducible refine Below.drew ?_ | with_reducible refine below_drewN' ?_ _ | with_reducible refine Below.alloc ?_ ?_ _ | with_reducible refine Below.setCell ?_ ?_ _ | with_reducible refine below_step (by assumption) ?_ ?_ | omega | (simp; done) | (simp; omega)))
  have HX := Lib.hid hX
  have HR := Lib.hid hR
  have HB := Lib.hid hbw
  have x2 := hX.cell 2
  have hlx := hX.lt
  have hlr := hR.lt
  dsimp only [List.getElem?_cons_zero, List.getElem?_cons_succ] at x2
  have HTW := Lib.hid (HT.out.mono hbw)
  rw [← hW]
  clear hW hX hR hbw HT
  go_wp2_with (first
    | (go_at_call 91; (with_reducible refine (ctxt_any va vk L _ HTW.out hm).mono ?_); rintro e w1 ⟨⟨v, rfl, hv⟩, hb⟩; obtain ⟨a1, k1, rfl⟩ := own_sl hv; have HA1 := Lib.hid (own_base (B' := w.heap.size + 1 + 1) hv (by omega)); have HX1 := Lib.hid (HX.out.below hb); have HR1 := Lib.hid (HR.out.below hb); have HB1 := Lib.hid (HB.out.trans (hb.mono HB.out.size)); have y2 := HX1.out.cell 2; have g2 := HX1.out.frozen 2; have hly := HX1.out.lt; dsimp only [List.getElem?_cons_zero, List.getElem?_cons_succ] at y2; clear hb hv)
    | ((with_reducible refine at_load (ty := 61) ?_); refine load_cells rfl 61 (.tmp 1) rfl w.heap.size 0 rfl [.string key, .int .i64 op, .slice a1 L.length k1] _ Tryz.underlying61 rfl (by kernel_rfl) (fun j v hj => by rw [Nat.zero_add, (HX1.out.set 2 (.slice a1 L.length k1)).cell]; exact hj) ?_)
    | ((with_reducible refine at_store (ty := 61) ?_); refine store_blk rfl 61 (.tmp 2) (.tmp 7) rfl (w.heap.size + 1) rfl [.string key, .int .i64 op, .slice a1 L.length k1] rfl 61 _ (HR1.out.other (by show w.heap.size + 1 ≠ w.heap.size; omega) _) (by kernel_rfl) rfl (trcs_one ⟨key, op, a1, k1, L⟩) ?_; intro w7 hb7 ho7; have HB7 := Lib.hid hb7; have HO7 := Lib.hid ho7; clear hb7 ho7))
  refine bodyPost_ret (v := .agg #[.string key, .int .i64 op, .slice a1 L.length k1]) (results_blk Tryz.results90 rfl HB7.out Tryz.underlying61 rfl (by kernel_rfl)) rfl ⟨⟨a1, k1, rfl, ?_⟩, ?_⟩
  · have ho : Only [w.heap.size, w.heap.size + 1] w1 w7 := ((Only.refl _ _).setCell (.inl (by simp)) _).trans (HO7.out.mono (by simp))
    exact own_base (own_only HA1.out ho (by simp; omega)) (by omega)
  · exact (((Only.refl [w.heap.size, w.heap.size + 1] _).setCell (.inl (by simp)) _).trans (HO7.out.mono (by simp))).below HB1.out HB1.out.size (by simp)
end Go.Proofs.YthbpnfpalcgfeaaGreat
