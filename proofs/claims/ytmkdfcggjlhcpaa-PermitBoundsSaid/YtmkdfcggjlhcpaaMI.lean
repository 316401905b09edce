/-
  Copies of lists and machines; machines that are the same.
-/
import Derived.Test.YtmkdfcggjlhcpaaMH
import Derived.Test.YtmkdfcggjlhcpaaMA
namespace Go.Proofs.Ytmkdfcggjlhcpaa
open Go.RowKit
set_option linter.unusedVariables false
set_option linter.unusedSimpArgs false

theorem kcs_one (x : Lab) : ∀ u ∈ kcs x, u.oneCell' = true := by
  intro u hu
  simp [kcs] at hu
  rcases hu with rfl | rfl <;> rfl
theorem Try.info99 : (Try.prog.info? 99).map (fun i => (i.zero, i.size, i.bytes)) = some (some (.agg #[.string ⟨#[]⟩, .string ⟨#[]⟩]), 2, 32) := by kernel_rfl

set_option maxRecDepth 100000 in
set_option maxHeartbeats 4000000 in
theorem clonel_any (c : Option Addr) (kc : Nat) (xs : List Lab) (w : World) (hF : LabL w c xs) (hok : NilOk c xs.length kc) (hm : xs.length ≤ 1000000) :
    Calls Try.prog 70 #[.slice c xs.length kc] w (Gives w (OwnL kcs 2 w.heap.size 99 xs)) := by
  have HF := Lib.hid hF
  have Hok := Lib.hid hok
  clear hF
  obtain ⟨i0, hi, hz0, hz1, hz2⟩ := info_parts Try.info99
  have Hi := Lib.hid hi
  have Hz0 := Lib.hid hz0
  have Hz1 := Lib.hid hz1
  have Hz2 := Lib.hid hz2
  clear hi hz0 hz1 hz2
  cases c with
  | none =>
    obtain ⟨h1, h2⟩ := hok rfl
    obtain rfl : xs = [] := List.eq_nil_of_length_eq_zero h1
    clear h1 hok
    subst h2
    have hq : ∀ V : World, (binOp .eql 44 (.slice none 0 0) (.slice none 0 0)).run Try.prog V = .ok (.bool true) V := fun V => Lib.run_eql_slice_nil V _ _ none 0 0 0 0 Try.underlying44
    go_enter Try.func70, Try.ntmps70
    go_wp2
    refine bodyPost_ret (v := .slice none 0 0) (by simp [results, Try.results70, go_sem]) rfl ⟨⟨_, rfl, World.ownsRow_nil _ _ _ _⟩, by (repeat' (first | with_reducible exact Below.refl _ _ | with_reducible assumption | with_reducible refine Below.drew ?_ | with_reducible refine below_drewN' ?_ _ | with_reducible refine Below.alloc ?_ ?_ _ | with_reducible refine Below.setCell ?_ ?_ _ | with_reducible refine below_step (by assumption) ?_ ?_ | omega | (simp; done) | (simp; omega)))⟩
  | some q =>
    clear hok
    have hc3 : 0 + xs.length ≤ maxLen := by unfold maxLen; omega
    have hc4 : (0 + xs.length) * 32 ≤ 140737488355328 := by omega
    have hq : ∀ V : World, (binOp .eql 44 (.slice (some q) xs.length kc) (.slice none 0 0)).run Try.prog V = .ok (.bool false) V := fun V => Lib.run_eql_slice_nil V _ _ (some q) _ _ 0 0 Try.underlying44
    go_enter Try.func70, Try.ntmps70
    go_wp2_with (at_builtin; refine wpList_append_src rfl (.tmp 5) (.tmp 6) 44 rfl w.heap.size 99 i0 _ 2 32 Try.underlying44 Hi.out Hz0.out Hz1.out Hz2.out rfl (by decide) _ 0 [] rfl (World.ownsRow_made w #[] 0 (Nat.le_refl w.heap.size) (Nat.zero_le _) rfl) (some q) xs.length kc (xs.flatMap kcs) rfl (rows_length kcs 2 kcs_len xs) (RowsAt.news kcs_len (HF.out.mono ((Below.refl _ w).alloc (Nat.le_refl _) _))) Hok.out (flat_ones kcs_one xs) hc3 hc4 (le_alloc (Nat.le_refl w.heap.size) _) ?_; intro v1 w3 hown1 hgrow1; rw [Nat.zero_add, List.nil_append] at hown1; have HB3 := Lib.hid (own_below (World.ownsRow_made w #[] 0 (Nat.le_refl w.heap.size) (Nat.zero_le _) rfl : (w.alloc (.cells #[] 99)).ownsRow w.heap.size 99 2 (.slice (some ⟨w.heap.size, 0, none⟩) 0 0) 0 []) ((Below.refl _ w).alloc (Nat.le_refl w.heap.size) _) (le_alloc (Nat.le_refl w.heap.size) _) hgrow1); have HO3 := Lib.hid hown1; clear hown1 hgrow1)
    refine bodyPost_ret (v := v1) (by simp [results, Try.results70, go_sem]) rfl ⟨⟨_, rfl, HO3.out⟩, HB3.out⟩

set_option maxRecDepth 100000 in
set_option maxHeartbeats 4000000 in
theorem clonet_any (c : Option Addr) (kc : Nat) (xs : List Tnt) (w : World) (hF : TntsAt w c xs) (hok : NilOk c xs.length kc) (hm : xs.length ≤ 1000000) :
    Calls Try.prog 71 #[.slice c xs.length kc] w (Gives w (OwnL tcs 3 w.heap.size 104 xs)) := by
  have HF := Lib.hid hF
  have Hok := Lib.hid hok
  clear hF
  obtain ⟨i0, hi, hz0, hz1, hz2⟩ := info_parts Try.info104
  have Hi := Lib.hid hi
  have Hz0 := Lib.hid hz0
  have Hz1 := Lib.hid hz1
  have Hz2 := Lib.hid hz2
  clear hi hz0 hz1 hz2
  cases c with
  | none =>
    obtain ⟨h1, h2⟩ := hok rfl
    obtain rfl : xs = [] := List.eq_nil_of_length_eq_zero h1
    clear h1 hok
    subst h2
    have hq : ∀ V : World, (binOp .eql 45 (.slice none 0 0) (.slice none 0 0)).run Try.prog V = .ok (.bool true) V := fun V => Lib.run_eql_slice_nil V _ _ none 0 0 0 0 Try.underlying45
    go_enter Try.func71, Try.ntmps71
    go_wp2
    refine bodyPost_ret (v := .slice none 0 0) (by simp [results, Try.results71, go_sem]) rfl ⟨⟨_, rfl, World.ownsRow_nil _ _ _ _⟩, by (repeat' (first | with_reducible exact Below.refl _ _ | with_reducible assumption | with_reducible refine Below.drew ?_ | with_reducible refine below_drewN' ?_ _ | with_reducible refine Below.alloc ?_ ?_ _ | with_reducible refine Below.setCell ?_ ?_ _ | with_reducible refine below_step (by assumption) ?_ ?_ | omega | (simp; done) | (simp; omega)))⟩
  | some q =>
    clear hok
    have hc3 : 0 + xs.length ≤ maxLen := by unfold maxLen; omega
    have hc4 : (0 + xs.length) * 40 ≤ 140737488355328 := by omega
    have hq : ∀ V : World, (binOp .eql 45 (.slice (some q) xs.length kc) (.slice none 0 0)).run Try.prog V = .ok (.bool false) V := fun V => Lib.run_eql_slice_nil V _ _ (some q) _ _ 0 0 Try.underlying45
    go_enter Try.func71, Try.ntmps71
    go_wp2_with (at_builtin; refine wpList_append_src rfl (.tmp 5) (.tmp 6) 45 rfl w.heap.size 104 i0 _ 3 40 Try.underlying45 Hi.out Hz0.out Hz1.out Hz2.out rfl (by decide) _ 0 [] rfl (World.ownsRow_made w #[] 0 (Nat.le_refl w.heap.size) (Nat.zero_le _) rfl) (some q) xs.length kc (xs.flatMap tcs) rfl (rows_length tcs 3 tcs_len xs) (RowsAt.news tcs_len (HF.out.mono ((Below.refl _ w).alloc (Nat.le_refl _) _))) Hok.out (flat_ones tcs_one xs) hc3 hc4 (le_alloc (Nat.le_refl w.heap.size) _) ?_; intro v1 w3 hown1 hgrow1; rw [Nat.zero_add, List.nil_append] at hown1; have HB3 := Lib.hid (own_below (World.ownsRow_made w #[] 0 (Nat.le_refl w.heap.size) (Nat.zero_le _) rfl : (w.alloc (.cells #[] 104)).ownsRow w.heap.size 104 3 (.slice (some ⟨w.heap.size, 0, none⟩) 0 0) 0 []) ((Below.refl _ w).alloc (Nat.le_refl w.heap.size) _) (le_alloc (Nat.le_refl w.heap.size) _) hgrow1); have HO3 := Lib.hid hown1; clear hown1 hgrow1)
    refine bodyPost_ret (v := v1) (by simp [results, Try.results71, go_sem]) rfl ⟨⟨_, rfl, HO3.out⟩, HB3.out⟩

theorem own_cap {α : Type} {enc : α → List Value} {K base : Nat} {t : TypeId} {l : List α} {sp : Option Addr} {cap : Nat} {w : World} (h : OwnL enc K base t l (.slice sp l.length cap) w) : l.length ≤ cap := by
  obtain ⟨_, hv | ⟨g, c, cur, hv, _, _, hc, _⟩⟩ := h
  · omega
  · simp at hv
    omega
/-- A machine whose lists are the call's own. -/
def OwnM (m : Mac) (base : Nat) (v : Value) (w : World) : Prop := ∃ vl vt, v = .agg #[.string m.nm, .string m.gp, .int .i64 m.r0, .int .i64 m.r1, .int .i64 m.r2, .int .i64 m.r3, .int .i64 m.r4, vl, vt, .bool m.rd] ∧ OwnL kcs 2 base 99 m.labs vl w ∧ OwnL tcs 3 base 104 m.tnts vt w
theorem OwnM.stays (m : Mac) (base : Nat) : Stays (OwnM m base) := fun v w w' hb ⟨vl, vt, e, h1, h2⟩ => ⟨vl, vt, e, OwnL.stays _ _ _ _ _ _ _ _ hb h1, OwnL.stays _ _ _ _ _ _ _ _ hb h2⟩
theorem OwnM.mono {m : Mac} {base base' : Nat} {v : Value} {w : World} (h : OwnM m base v w) (hb : base' ≤ base) : OwnM m base' v w := by
  obtain ⟨vl, vt, e, h1, h2⟩ := h
  exact ⟨vl, vt, e, OwnL.mono h1 hb, OwnL.mono h2 hb⟩
/-- Such a machine lies there. -/
theorem OwnM.at {m : Mac} {base : Nat} {v : Value} {w : World} (h : OwnM m base v w) (hl : m.labs.length ≤ maxLen) (ht : m.tnts.length ≤ maxLen) : ∃ la lk ta tk, v = .agg #[.string (({m with la := la, lk := lk, ta := ta, tk := tk} : Mac)).nm, .string (({m with la := la, lk := lk, ta := ta, tk := tk} : Mac)).gp, .int .i64 (({m with la := la, lk := lk, ta := ta, tk := tk} : Mac)).r0, .int .i64 (({m with la := la, lk := lk, ta := ta, tk := tk} : Mac)).r1, .int .i64 (({m with la := la, lk := lk, ta := ta, tk := tk} : Mac)).r2, .int .i64 (({m with la := la, lk := lk, ta := ta, tk := tk} : Mac)).r3, .int .i64 (({m with la := la, lk := lk, ta := ta, tk := tk} : Mac)).r4, .slice (({m with la := la, lk := lk, ta := ta, tk := tk} : Mac)).la (({m with la := la, lk := lk, ta := ta, tk := tk} : Mac)).labs.length (({m with la := la, lk := lk, ta := ta, tk := tk} : Mac)).lk, .slice (({m with la := la, lk := lk, ta := ta, tk := tk} : Mac)).ta (({m with la := la, lk := lk, ta := ta, tk := tk} : Mac)).tnts.length (({m with la := la, lk := lk, ta := ta, tk := tk} : Mac)).tk, .bool (({m with la := la, lk := lk, ta := ta, tk := tk} : Mac)).rd] ∧ MacIn w {m with la := la, lk := lk, ta := ta, tk := tk} := by
  obtain ⟨vl, vt, rfl, h1, h2⟩ := h
  obtain ⟨la, lk, rfl, n1, r1⟩ := OwnL.isL kcs_len (by decide) h1
  obtain ⟨ta, tk, rfl, n2, r2⟩ := OwnL.isL tcs_len (by decide) h2
  exact ⟨la, lk, ta, tk, rfl, ⟨⟨r1, r2, hl, ht⟩, n1, own_cap h1, n2, own_cap h2⟩⟩

set_option maxRecDepth 100000 in
set_option maxHeartbeats 4000000 in
theorem clonem_any (m : Mac) (w : World) (hA : MacIn w m) (hl : m.labs.length ≤ 1000000) (ht : m.tnts.length ≤ 1000000) :
    Calls Try.prog 56 #[.agg #[.string (m).nm, .string (m).gp, .int .i64 (m).r0, .int .i64 (m).r1, .int .i64 (m).r2, .int .i64 (m).r3, .int .i64 (m).r4, .slice (m).la (m).labs.length (m).lk, .slice (m).ta (m).tnts.length (m).tk, .bool (m).rd]] w (Gives w (OwnM m w.heap.size)) := by
  obtain ⟨nm, gp, r0, r1, r2, r3, r4, la, lk, L, ta, tk, T, rd⟩ := m
  obtain ⟨⟨hL, hT, hl9, ht9⟩, hln, hlc, htn, htc⟩ := hA
  simp only at hL hT hln hlc htn htc hl ht
  clear hl9 ht9 hlc htc
  have HL := Lib.hid hL
  have HT := Lib.hid hT
  have Hln := Lib.hid hln
  have Htn := Lib.hid htn
  clear hL hT hln htn
  go_enter Try.func56, Try.ntmps56
  go_wp2_with (first
    | (go_at_call 70; (with_reducible refine (clonel_any la lk L _ (HL.out.mono (by (repeat' (first | with_reducible exact Below.refl _ _ | with_reducible assumption | with_reducible refine Below.drew ?_ | with_reducible refine below_drewN' ?_ _ | with_reducible refine Below.alloc ?_ ?_ _ | with_reducible refine Below.setCell ?_ ?_ _ | with_reducible refine below_step (by assumption) ?_ ?_ | omega | (simp; done) | (simp; omega))))) Hln.out hl).mono ?_); rintro e w1 ⟨⟨vl, rfl, hv1⟩, hb1⟩; obtain ⟨hc1, hf1⟩ := bcell hb1; have hz1 := hb1.size; (try simp at hz1); obtain ⟨sl, kl, rfl, _⟩ := own_rows kcs_len hv1 (by decide); have HV1 := Lib.hid hv1; clear hv1; have z1_0 : w.heap.size < w1.heap.size := (by omega); have y1_0 : w.heap.size ≤ w1.heap.size := (by omega); have z1_1 : w.heap.size + 1 < w1.heap.size := (by omega); have y1_1 : w.heap.size + 1 ≤ w1.heap.size := (by omega); have HB1 := Lib.hid hb1; have x7 : w1.cell? ⟨w.heap.size, 7, none⟩ = some (.slice la L.length lk) := (by simp [go_sem, *]))
    | (go_at_call 71; (with_reducible refine (clonet_any ta tk T _ (HT.out.mono (by (repeat' (first | with_reducible exact Below.refl _ _ | with_reducible assumption | with_reducible refine Below.drew ?_ | with_reducible refine below_drewN' ?_ _ | with_reducible refine Below.alloc ?_ ?_ _ | with_reducible refine Below.setCell ?_ ?_ _ | with_reducible refine below_step (by assumption) ?_ ?_ | omega | (simp; done) | (simp; omega))))) Htn.out ht).mono ?_); rintro e w2 ⟨⟨vt, rfl, hv2⟩, hb2⟩; obtain ⟨hc2, hf2⟩ := bcell hb2; have hz2 := hb2.size; (try simp at hz2); obtain ⟨st, kt, rfl, _⟩ := own_rows tcs_len hv2 (by decide); have HV2 := Lib.hid hv2; clear hv2; have z2_0 : w.heap.size < w2.heap.size := (by omega); have y2_0 : w.heap.size ≤ w2.heap.size := (by omega); have z2_1 : w.heap.size + 1 < w2.heap.size := (by omega); have y2_1 : w.heap.size + 1 ≤ w2.heap.size := (by omega); have q7 : w2.cell? ⟨w.heap.size, 7, none⟩ = some (.slice sl L.length kl) := (by rw [hc2 _ _ (by simp; omega)]; exact World.cell?_setCell_same _ _ _ x7); have q8 : ∀ v, (w2.setCell ⟨w.heap.size, 8, none⟩ v).cell? ⟨w.heap.size, 8, none⟩ = some v := (fun v => World.cell?_setCell_same _ _ _ (by rw [hc2 _ _ (by simp; omega)]; simp [go_sem, *]; rfl))))
  refine bodyPost_ret (v := .agg #[.string nm, .string gp, .int .i64 r0, .int .i64 r1, .int .i64 r2, .int .i64 r3, .int .i64 r4, .slice sl L.length kl, .slice st T.length kt, .bool rd]) (by simp [results, Try.results56, go_sem, *]) rfl ?_
  have hk1 := HV1.out
  have hk2 := HV2.out
  simp only [World.size_alloc, World.size_setCell] at hk1 hk2
  refine ⟨⟨_, rfl, _, _, rfl, OwnL.mono (own_keep (B := w.heap.size + 2) hk1 ?_ (by first | omega | (simp; done) | (simp; omega))) (by first | omega | (simp; done) | (simp; omega)), OwnL.mono (own_keep (B := w.heap.size + 2) hk2 ?_ (by first | omega | (simp; done) | (simp; omega))) (by first | omega | (simp; done) | (simp; omega))⟩, by (repeat' (first | with_reducible exact Below.refl _ _ | with_reducible assumption | with_reducible refine Below.drew ?_ | with_reducible refine below_drewN' ?_ _ | with_reducible refine Below.alloc ?_ ?_ _ | with_reducible refine Below.setCell ?_ ?_ _ | with_reducible refine below_step (by assumption) ?_ ?_ | omega | (simp; done) | (simp; omega)))⟩
  · (repeat' (first | with_reducible exact Keep.refl _ _ _ | with_reducible assumption | with_reducible refine Keep.drew ?_ | with_reducible refine Keep.drewN ?_ _ | with_reducible refine Keep.alloc ?_ ?_ _ | with_reducible refine Keep.setCell ?_ ?_ _ | with_reducible refine Keep.step (by assumption) ?_ ?_ | omega | (simp; done) | (simp; omega)))
  · (repeat' (first | with_reducible exact Keep.refl _ _ _ | with_reducible assumption | with_reducible refine Keep.drew ?_ | with_reducible refine Keep.drewN ?_ _ | with_reducible refine Keep.alloc ?_ ?_ _ | with_reducible refine Keep.setCell ?_ ?_ _ | with_reducible refine Keep.step (by assumption) ?_ ?_ | omega | (simp; done) | (simp; omega)))
theorem guard_lab (op : BinOp) (x y : Operand) (xs ys : Array Value) (w : World) : (eqGuard op 99 x y (.agg xs) (.agg ys)).run Try.prog w = .ok () w := run_eqGuard_agg w op _ x y xs ys (by kernel_rfl)
theorem neq_lab1 (x : Lab) (w : World) : (binOp .neq 99 (.agg #[.string x.key, .string x.val]) (.agg #[.string x.key, .string x.val])).run Try.prog w = .ok (.bool false) w := by
  have hus := Try.underlying9
  have has := Try.isAgg9
  have hzs := Try.sizeOf9
  have hS : Try.prog.underlying 99 = some (.struct (Try.prog.fieldsOf 99)) := by kernel_rfl
  have hp : Try.prog.stoodInHeld 99 = false := by kernel_rfl
  rw [run_neq_struct, show (10000 : Nat) = 9999 + 1 from rfl, run_equalIn_agg w 9999 99 _ _ hS hp]
  simp only [Program.fieldsOf, Try.underlying99]
  go_simp
theorem neq_tnt1 (x : Tnt) (w : World) : (binOp .neq 104 (.agg #[.string x.key, .string x.val, .int .i64 x.eff]) (.agg #[.string x.key, .string x.val, .int .i64 x.eff])).run Try.prog w = .ok (.bool false) w := by
  rw [neq_tnt]
  unfold tntB
  simp
theorem guard_res (op : BinOp) (x y : Operand) (xs ys : Array Value) (w : World) : (eqGuard op 43 x y (.agg xs) (.agg ys)).run Try.prog w = .ok () w := run_eqGuard_agg w op _ x y xs ys (by kernel_rfl)
theorem eql_res1 (a b c d e : Int) (w : World) : (binOp .eql 43 (.agg #[.int .i64 a, .int .i64 b, .int .i64 c, .int .i64 d, .int .i64 e]) (.agg #[.int .i64 a, .int .i64 b, .int .i64 c, .int .i64 d, .int .i64 e])).run Try.prog w = .ok (.bool true) w := by
  have hus := Try.underlying3
  have has := Try.isAgg3
  have hzs := Try.sizeOf3
  have hS : Try.prog.underlying 43 = some (.struct (Try.prog.fieldsOf 43)) := by kernel_rfl
  have hp : Try.prog.stoodInHeld 43 = false := by kernel_rfl
  rw [run_eql_struct, show (10000 : Nat) = 9999 + 1 from rfl, run_equalIn_agg w 9999 43 _ _ hS hp]
  simp only [Program.fieldsOf, Try.underlying43]
  go_simp

/-- Alike, but for where the lists lie. -/
structure Alike (a b : Mac) : Prop where
  nm : a.nm = b.nm
  gp : a.gp = b.gp
  r0 : a.r0 = b.r0
  r1 : a.r1 = b.r1
  r2 : a.r2 = b.r2
  r3 : a.r3 = b.r3
  r4 : a.r4 = b.r4
  labs : a.labs = b.labs
  tnts : a.tnts = b.tnts
  rd : a.rd = b.rd

end Go.Proofs.Ytmkdfcggjlhcpaa
