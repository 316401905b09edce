/-
  Fit: Where, Tally, Feasible.
-/
import Derived.Test.YthbpnfpalcgfeaaGreatFt6
import Derived.Shelf.Abstract
import Derived.Laws.Tables
namespace Go.Proofs.YthbpnfpalcgfeaaGreat
open Go.RowKit
set_option linter.unusedVariables false
set_option linter.unusedSimpArgs false

theorem Only.setRow {g : Nat} (w : World) (cs : Array Value) : Only [g] w (w.setRow g cs) :=
  ⟨rfl, rfl, rfl, by simp [World.setRow], fun k hk hn => by
    have hne : g ≠ k := by simpa using Ne.symm (by simpa using hn : ¬ k = g)
    simp [World.setRow, Array.getElem?_modify, hne]⟩
/-- A whole row into a block of its size. -/
theorem store_blk {P : Program} {ops : Array Oper} {Q : Exit → Act → World → Prop} {a : Act} {w : World} {rest : List Oper} {o : Oper} (hw : Region.wanted o (yielded ops a.tmps) = true) (ty : TypeId) (x y : Operand) (ho : o.op = .store ty x y)
    (g : Nat) (hx : a.eval x = .pointer (some ⟨g, 0, none⟩)) (cs : List Value) (hy : a.eval y = .agg cs.toArray) (t : TypeId) (old : List Value) (hb : Blk w g t old) (hi : (P.info? ty).map (·.size) = some cs.length) (hold : old.length = cs.length) (h1 : ∀ u ∈ cs, u.oneCell' = true)
    (h : ∀ w', Blk w' g t cs → Only [g] w w' → wpList P ops Q rest (a.put o.dst undef) w') : wpList P ops Q (o :: rest) a w :=
  BigFrame.wpList_want hw fun K hK => wp_store_row ty x y ho g cs.toArray hx hy t old.toArray hb (by simpa using hi) (by simpa using hold) (by rw [Array.all_eq_true_iff_forall_mem]; intro u hu; exact h1 u (by simpa using hu))
    (hK _ _ (h _ (setRow_heap w g old.toArray cs.toArray t (0, 0) hb) (Only.setRow w _)))
theorem own_base {w : World} {B B' : Nat} {v : Value} {n k : Nat} {e : TypeId} {xs : List Value} (h : w.ownsRow B e k v n xs) (hb : B' ≤ B) : w.ownsRow B' e k v n xs := by
  obtain ⟨h1, h2⟩ := h
  refine ⟨h1, ?_⟩
  rcases h2 with h2 | ⟨g, cap, cur, e1, e2, r⟩
  · exact .inl h2
  · exact .inr ⟨g, cap, cur, e1, Nat.le_trans hb e2, r⟩
def tc (L : List Int) (r : Int) : Nat := (L.filter fun x => decide (x = r)).length
def tcl (L : List Int) : List Value := [.int .i64 (tc L 0 : Nat), .int .i64 (tc L 1 : Nat), .int .i64 (tc L 2 : Nat), .int .i64 (tc L 3 : Nat), .int .i64 (tc L 4 : Nat), .int .i64 (tc L 5 : Nat), .int .i64 (tc L 6 : Nat), .int .i64 (tc L 7 : Nat), .int .i64 (tc L 8 : Nat)]
theorem tc_next {L : List Int} {k : Nat} {x : Int} (h : L[k]? = some x) (r : Int) : tc (L.take (k + 1)) r = tc (L.take k) r + if x = r then 1 else 0 := by
  unfold tc
  rw [List.take_add_one, h, List.filter_append, List.length_append]
  congr 1
  show (List.filter (fun x => decide (x = r)) [x]).length = _
  rw [List.filter_cons]
  by_cases hx : x = r
  · simp [hx]
  · simp [hx]
theorem tc_le (L : List Int) (r : Int) : tc L r ≤ L.length := List.length_filter_le _ _
theorem tcl_at (L : List Int) {q : Nat} (hq : q < 9) : (tcl L)[q]? = some (.int .i64 (tc L (q : Int) : Nat)) := by
  match q, hq with
  | 0, _ => rfl
  | 1, _ => rfl
  | 2, _ => rfl
  | 3, _ => rfl
  | 4, _ => rfl
  | 5, _ => rfl
  | 6, _ => rfl
  | 7, _ => rfl
  | 8, _ => rfl
theorem tcl_next {L : List Int} {k q : Nat} (h : L[k]? = some (q : Int)) (hq : q < 9) : (tcl (L.take k)).set q (.int .i64 ((tc (L.take k) (q : Int) : Int) + 1)) = tcl (L.take (k + 1)) := by
  unfold tcl
  simp only [tc_next h]
  match q, hq with
  | 0, _ => rfl
  | 1, _ => rfl
  | 2, _ => rfl
  | 3, _ => rfl
  | 4, _ => rfl
  | 5, _ => rfl
  | 6, _ => rfl
  | 7, _ => rfl
  | 8, _ => rfl
theorem tcl_one (L : List Int) : ∀ u ∈ tcl L, u.oneCell' = true := by
  intro u hu
  simp only [tcl, List.mem_cons, List.not_mem_nil, or_false] at hu
  rcases hu with rfl | rfl | rfl | rfl | rfl | rfl | rfl | rfl | rfl <;> rfl
def whyL (ms : List Mac) (bs : List Bd) (p : Pd) : List Int := ms.map fun m => whyF ms bs p m.nm
set_option maxRecDepth 100000 in
set_option maxHeartbeats 4000000 in
theorem reas_any (a c : Option Addr) (ka kc : Nat) (ms : List Mac) (bs : List Bd) (p : Pd) (w : World) (hY : YA w a ms c bs) (hP : PodAt w p) (hp : lightP p = true) (n N : Nat) (hn : ms.length = n) (hN : bs.length = N) :
    Calls Tryz.prog 26 #[.slice a n ka, .func (.func 27) #[.agg #[.slice a n ka, .slice c N kc, .string (p).nm, .int .i64 (p).n0, .int .i64 (p).n1, .int .i64 (p).n2, .int .i64 (p).n3, .int .i64 (p).n4, .slice (p).la (p).labs.length (p).lk, .slice (p).sa (p).sels.length (p).sk, .slice (p).ta (p).trms.length (p).tk, .slice (p).ba (p).bers.length (p).bk, .slice (p).pa (p).prts.length (p).pk, .slice (p).aa (p).aprs.length (p).ak, .bool (p).wd, .slice (p).da (p).spds.length (p).dk, .int .i64 (p).sw, .int .i64 (p).rk, .string (p).ow, .bool (p).dm, .bool (p).pn, .bool (p).lc]] #[]] w fun e w' => (∃ ar kr, e = .returned (.slice ar n kr) ∧ IntL w' ar (whyL ms bs p) ∧ ∀ q o, ar = some ⟨q, o, none⟩ → w.heap.size ≤ q) ∧ Below w.heap.size w w' := by
  have h9 := reasons_any a ka ms 27 #[.agg #[.slice a n ka, .slice c N kc, .string (p).nm, .int .i64 (p).n0, .int .i64 (p).n1, .int .i64 (p).n2, .int .i64 (p).n3, .int .i64 (p).n4, .slice (p).la (p).labs.length (p).lk, .slice (p).sa (p).sels.length (p).sk, .slice (p).ta (p).trms.length (p).tk, .slice (p).ba (p).bers.length (p).bk, .slice (p).pa (p).prts.length (p).pk, .slice (p).aa (p).aprs.length (p).ak, .bool (p).wd, .slice (p).da (p).spds.length (p).dk, .int .i64 (p).sw, .int .i64 (p).rk, .string (p).ow, .bool (p).dm, .bool (p).pn, .bool (p).lc]] (whyF ms bs p) w hY.ml hY.mm (enters_of Tryz.func27 (by kernel_rfl) rfl) (fun m hm V hV => qwhy_any a c ka kc ms bs p m.nm V (hY.mono hV) (hP.mono hV) hp n N hn hN)
  rw [hn] at h9
  refine h9.mono fun e w' h => ?_
  obtain ⟨⟨v, rfl, hv⟩, hb⟩ := h
  obtain ⟨ar, kr, rfl, -, ht⟩ := IsL.of_own pcs_len (by decide) hv
  exact ⟨⟨ar, kr, by rw [List.length_map, hn], ht, fun q o e => by subst e; exact (hv.lt q rfl).1⟩, hb⟩
theorem whyL_at {ms : List Mac} {bs : List Bd} {p : Pd} {k : Nat} {m : Mac} (h : ms[k]? = some m) : (whyL ms bs p)[k]? = some (whyF ms bs p m.nm) := by
  unfold whyL
  rw [List.getElem?_map, h]
  rfl
def isOk (ms : List Mac) (bs : List Bd) (p : Pd) (m : Mac) : Bool := decide (whyF ms bs p m.nm = 0)
theorem where_eq (ms : List Mac) (bs : List Bd) (p : Pd) : whereF ms bs p = (ms.filter (isOk ms bs p)).map Mac.nm := rfl
theorem where_next {ms : List Mac} {k : Nat} {m : Mac} (h : ms[k]? = some m) (f : Mac → Bool) : ((ms.take (k + 1)).filter f).map Mac.nm = ((ms.take k).filter f).map Mac.nm ++ (if f m = true then [m.nm] else []) := by
  rw [List.take_add_one, h, List.filter_append, List.map_append]
  congr 1
  show (List.filter f [m]).map Mac.nm = _
  rw [List.filter_cons]
  split <;> rfl
set_option maxRecDepth 100000 in
set_option maxHeartbeats 4000000 in
theorem where_any (a c : Option Addr) (ka kc : Nat) (ms : List Mac) (bs : List Bd) (p : Pd) (w : World) (hY : YA w a ms c bs) (hP : PodAt w p) (hp : lightP p = true) :
    Calls Tryz.prog 9 #[.slice a ms.length ka, .slice c bs.length kc, .agg (prow p).toArray] w (GivesT w (whereF ms bs p)) := by
  obtain ⟨N, hN⟩ : ∃ N, bs.length = N := ⟨_, rfl⟩
  obtain ⟨n, hn⟩ : ∃ n, ms.length = n := ⟨_, rfl⟩
  have HRe := Lib.hid (fun V (hV : Below w.heap.size w V) => reas_any a c ka kc ms bs p V (hY.mono hV) (hP.mono hV) hp n N hn hN)
  obtain ⟨W, hW⟩ : ∃ W, W = (w.alloc (.cells #[.string (p).nm, .int .i64 (p).n0, .int .i64 (p).n1, .int .i64 (p).n2, .int .i64 (p).n3, .int .i64 (p).n4, .slice (p).la (p).labs.length (p).lk, .slice (p).sa (p).sels.length (p).sk, .slice (p).ta (p).trms.length (p).tk, .slice (p).ba (p).bers.length (p).bk, .slice (p).pa (p).prts.length (p).pk, .slice (p).aa (p).aprs.length (p).ak, .bool (p).wd, .slice (p).da (p).spds.length (p).dk, .int .i64 (p).sw, .int .i64 (p).rk, .string (p).ow, .bool (p).dm, .bool (p).pn, .bool (p).lc] 31)) := ⟨_, rfl⟩
  have hX : Box w.heap.size (prow p) W := by rw [hW]; exact (Box.new w (prow p) 31)
  have hbw : Below w.heap.size w W := by rw [hW]; (repeat' (first | with_reducible exact Below.refl _ _ | with_reducible assumption | with_reducible refine Below.drew ?_ | with_reducible refine below_drewN' ?_ _ | with_reducible refine Below.alloc ?_ ?_ _ | with_reducible refine Below.setCell ?_ ?_ _ | with_reducible refine below_step (by assumption) ?_ ?_ | omega | (simp; done) | (simp; omega)))
  have HB := Lib.hid hbw
  have HRp := Lib.hid (show W.rangeAt w.heap.size 0 [.string (p).nm, .int .i64 (p).n0, .int .i64 (p).n1, .int .i64 (p).n2, .int .i64 (p).n3, .int .i64 (p).n4, .slice (p).la (p).labs.length (p).lk, .slice (p).sa (p).sels.length (p).sk, .slice (p).ta (p).trms.length (p).tk, .slice (p).ba (p).bers.length (p).bk, .slice (p).pa (p).prts.length (p).pk, .slice (p).aa (p).aprs.length (p).ak, .bool (p).wd, .slice (p).da (p).spds.length (p).dk, .int .i64 (p).sw, .int .i64 (p).rk, .string (p).ow, .bool (p).dm, .bool (p).pn, .bool (p).lc] from hX.range)
  have HYA := Lib.hid hY
  have Hn := Lib.hid hn
  have hnb := hY.mm
  rw [hn] at hnb
  rw [hn, hN, where_eq]
  obtain ⟨i0, hi, hz0, hz1, hz2⟩ := info_parts Tryz.info9
  have Hi := Lib.hid hi
  have Hz0 := Lib.hid hz0
  have Hz1 := Lib.hid hz1
  have Hz2 := Lib.hid hz2
  clear hi hz0 hz1 hz2
  show Calls Tryz.prog 9 #[.slice a n ka, .slice c N kc, .agg #[.string (p).nm, .int .i64 (p).n0, .int .i64 (p).n1, .int .i64 (p).n2, .int .i64 (p).n3, .int .i64 (p).n4, .slice (p).la (p).labs.length (p).lk, .slice (p).sa (p).sels.length (p).sk, .slice (p).ta (p).trms.length (p).tk, .slice (p).ba (p).bers.length (p).bk, .slice (p).pa (p).prts.length (p).pk, .slice (p).aa (p).aprs.length (p).ak, .bool (p).wd, .slice (p).da (p).spds.length (p).dk, .int .i64 (p).sw, .int .i64 (p).rk, .string (p).ow, .bool (p).dm, .bool (p).pn, .bool (p).lc]] w _
  clear hX hbw hY hP hp hN hn
  go_enter Tryz.func9, Tryz.ntmps9
  go_upto_region 1 with (fail)
  rw [← hW]
  clear hW
  go_wp2_with (first
    | ((with_reducible refine at_load (ty := 31) ?_); refine load_cells rfl 31 (.tmp 5) rfl w.heap.size 0 rfl [.string (p).nm, .int .i64 (p).n0, .int .i64 (p).n1, .int .i64 (p).n2, .int .i64 (p).n3, .int .i64 (p).n4, .slice (p).la (p).labs.length (p).lk, .slice (p).sa (p).sels.length (p).sk, .slice (p).ta (p).trms.length (p).tk, .slice (p).ba (p).bers.length (p).bk, .slice (p).pa (p).prts.length (p).pk, .slice (p).aa (p).aprs.length (p).ak, .bool (p).wd, .slice (p).da (p).spds.length (p).dk, .int .i64 (p).sw, .int .i64 (p).rk, .string (p).ow, .bool (p).dm, .bool (p).pn, .bool (p).lc] _ Tryz.underlying31 rfl (by kernel_rfl) HRp.out ?_)
    | (go_at_call 26; (with_reducible refine (HRe.out _ HB.out).mono ?_); rintro e w3 ⟨⟨ar, kr, rfl, hT, -⟩, hb⟩; have HT3 := Lib.hid hT; have HB3 := Lib.hid (HB.out.trans (hb.mono HB.out.size)); clear hb hT))
  obtain ⟨V3, hV3⟩ : ∃ V3, V3 = w3 := ⟨_, rfl⟩
  rw [← hV3] at HT3 HB3 ⊢
  clear hV3 HRp HRe
  go_loopw [7, 18] (fun vo vi wr => ∃ (k : Nat) (Q : List ByteArray), k ≤ n ∧ vi = .int .i64 k ∧ Q = ((ms.take k).filter (isOk ms bs p)).map Mac.nm ∧ Q.length ≤ k ∧ wr.ownsRow V3.heap.size 9 1 vo Q.length (Q.flatMap scs) ∧ Below V3.heap.size V3 wr) (fun _ vi _ => n - (intOf vi).toNat)
  case atStart => exact ⟨0, [], Nat.zero_le _, rfl, rfl, Nat.le_refl _, World.ownsRow_nil _ _ _ _, Below.refl _ _⟩
  case round =>
    obtain ⟨k, Q, hk, rfl, hE, hLk, hO, hB⟩ := hrel
    have HE := Lib.hid hE
    have HB := Lib.hid hB
    have HO := Lib.hid hO
    have hbz := hB.size
    obtain ⟨ao, ko, rfl⟩ := own_sl hO
    by_cases hlt : k < n
    · obtain ⟨m, hm⟩ := mem_at (l := ms) (k := k) (by rw [Hn.out]; exact hlt)
      obtain ⟨q, o, rfl, hq, hc⟩ := (HT3.out.mono hB) (by unfold whyL; rw [List.length_map, Hn.out]; omega)
      have c0 : wr.cell? ⟨q, o + k, none⟩ = some (.int .i64 (whyF ms bs p m.nm)) := by
        have h9 := hc k _ (whyL_at hm) 0 (by decide)
        rw [Nat.mul_one] at h9
        exact h9
      obtain ⟨b, f, rfl, hb, hd⟩ := (HYA.out.ml.mono (HB3.out.trans (hB.mono HB3.out.size))) (by rw [Hn.out]; omega)
      have d0 : wr.cell? ⟨b, f + k * 10, none⟩ = some (.string m.nm) := hd k m hm 0 (by decide)
      have hnx := where_next hm (isOk ms bs p)
      rw [← hE] at hnx
      have hi : isOk ms bs p m = decide (whyF ms bs p m.nm = 0) := rfl
      rw [hi] at hnx
      obtain ⟨r, hr⟩ : ∃ r, whyF ms bs p m.nm = r := ⟨_, rfl⟩
      rw [hr] at c0 hnx
      obtain ⟨nm, hnm⟩ : ∃ nm, m.nm = nm := ⟨_, rfl⟩
      rw [hnm] at d0 hnx
      clear hE hO hB hc hd hm hi hr hnm
      by_cases h0 : r = 0
      · subst h0
        rw [if_pos (by decide)] at hnx
        have HNx := Lib.hid hnx.symm
        clear hnx
        go_wp2_with (at_builtin; refine wpList_append_src rfl (.tmp 25) (.tmp 31) 39 rfl V3.heap.size 9 i0 _ 1 16 Tryz.underlying39 Hi.out Hz0.out Hz1.out Hz2.out rfl (by decide) _ Q.length (Q.flatMap scs) rfl (HO.out.alloc _) (some ⟨wr.heap.size, 0, none⟩) 1 1 (scs nm) rfl rfl (fun q e => by injection e with e; rw [← e]; exact news_at _ _ _) (fun e => by cases e) (scs_one nm) (by unfold maxLen; omega) (by omega) (by simp; omega) ?_; intro v6 w6 hown6 hgrow6; obtain ⟨a6, k6, rfl⟩ := own_sl hown6; have HB6 := Lib.hid (own_below (HO.out.alloc _) (HB.out.alloc hbz _) (by simp; omega) hgrow6); have HO6 := Lib.hid hown6; clear hown6 hgrow6)
        go_roundw
        case rel =>
          refine ⟨k + 1, Q ++ [nm], by omega, by go_num, HNx.out, by rw [List.length_append]; show Q.length + 1 ≤ _; omega, ?_, HB6.out⟩
          rw [List.length_append, List.flatMap_append]
          have h9 := HO6.out
          simpa using h9
        case measure => simp [intOf]; omega
      · have q0 : (r == 0) = false := by simpa using h0
        rw [if_neg (by rw [decide_eq_false h0]; exact Bool.false_ne_true), List.append_nil] at hnx
        have HNx := Lib.hid hnx.symm
        clear hnx h0
        go_wp2
        go_roundw
        case rel => exact ⟨k + 1, Q, by omega, by go_num, HNx.out, by omega, HO.out, HB.out⟩
        case measure => simp [intOf]; omega
    · obtain rfl : k = n := by omega
      have HL := Lib.hid (show Q = (ms.filter (isOk ms bs p)).map Mac.nm by rw [hE, List.take_of_length_le (by rw [Hn.out]; exact Nat.le_refl _)])
      have HBf := Lib.hid (HB3.out.trans (hB.mono HB3.out.size))
      have HOf := Lib.hid (own_base hO HB3.out.size)
      clear hE hO hB
      go_wp2
      refine bodyPost_ret (v := .slice ao Q.length ko) (by simp [results, Tryz.results9, go_sem]) rfl ⟨⟨_, rfl, by rw [← HL.out]; exact HOf.out⟩, HBf.out⟩
theorem Tryz.info41 : (Tryz.prog.info? 41).map (fun i => (i.zero, i.size)) = some (some (.agg #[.int .i64 0, .int .i64 0, .int .i64 0, .int .i64 0, .int .i64 0, .int .i64 0, .int .i64 0, .int .i64 0, .int .i64 0]), 9) := by kernel_rfl
set_option maxRecDepth 100000 in
set_option maxHeartbeats 4000000 in
theorem tally_any (a c : Option Addr) (ka kc : Nat) (ms : List Mac) (bs : List Bd) (p : Pd) (w : World) (hY : YA w a ms c bs) (hP : PodAt w p) (hp : lightP p = true) :
    Calls Tryz.prog 11 #[.slice a ms.length ka, .slice c bs.length kc, .agg (prow p).toArray] w fun e w' => e = .returned (.agg (tcl (whyL ms bs p)).toArray) ∧ Below w.heap.size w w' := by
  obtain ⟨N, hN⟩ : ∃ N, bs.length = N := ⟨_, rfl⟩
  obtain ⟨n, hn⟩ : ∃ n, ms.length = n := ⟨_, rfl⟩
  have HRe := Lib.hid (fun V (hV : Below w.heap.size w V) => reas_any a c ka kc ms bs p V (hY.mono hV) (hP.mono hV) hp n N hn hN)
  obtain ⟨z0, z1⟩ := zero_of_info Tryz.info41
  obtain ⟨W, hW⟩ : ∃ W, W = ((w.alloc (.cells #[.string (p).nm, .int .i64 (p).n0, .int .i64 (p).n1, .int .i64 (p).n2, .int .i64 (p).n3, .int .i64 (p).n4, .slice (p).la (p).labs.length (p).lk, .slice (p).sa (p).sels.length (p).sk, .slice (p).ta (p).trms.length (p).tk, .slice (p).ba (p).bers.length (p).bk, .slice (p).pa (p).prts.length (p).pk, .slice (p).aa (p).aprs.length (p).ak, .bool (p).wd, .slice (p).da (p).spds.length (p).dk, .int .i64 (p).sw, .int .i64 (p).rk, .string (p).ow, .bool (p).dm, .bool (p).pn, .bool (p).lc] 31)).alloc (.cells (tcl []).toArray 41)).alloc (.cells (tcl []).toArray 41) := ⟨_, rfl⟩
  have hX : Box w.heap.size (prow p) W := by rw [hW]; exact ((Box.new w (prow p) 31).mono ((Below.refl _ _).alloc (Nat.le_refl _) _)).mono ((Below.refl _ _).alloc (Nat.le_refl _) _)
  have hbw : Below w.heap.size w W := by rw [hW]; (repeat' (first | with_reducible exact Below.refl _ _ | with_reducible assumption | with_reducible refine Below.drew ?_ | with_reducible refine below_drewN' ?_ _ | with_reducible refine Below.alloc ?_ ?_ _ | with_reducible refine Below.setCell ?_ ?_ _ | with_reducible refine below_step (by assumption) ?_ ?_ | omega | (simp; done) | (simp; omega)))
  have hR : Blk W (w.heap.size + 1) 41 (tcl []) := by
    rw [hW]
    have h9 := Blk.new (w.alloc (.cells #[.string (p).nm, .int .i64 (p).n0, .int .i64 (p).n1, .int .i64 (p).n2, .int .i64 (p).n3, .int .i64 (p).n4, .slice (p).la (p).labs.length (p).lk, .slice (p).sa (p).sels.length (p).sk, .slice (p).ta (p).trms.length (p).tk, .slice (p).ba (p).bers.length (p).bk, .slice (p).pa (p).prts.length (p).pk, .slice (p).aa (p).aprs.length (p).ak, .bool (p).wd, .slice (p).da (p).spds.length (p).dk, .int .i64 (p).sw, .int .i64 (p).rk, .string (p).ow, .bool (p).dm, .bool (p).pn, .bool (p).lc] 31)) 41 (tcl [])
    rw [World.size_alloc] at h9
    exact h9.alloc _
  have hT : Blk W (w.heap.size + 1 + 1) 41 (tcl []) := by
    rw [hW]
    have h9 := Blk.new ((w.alloc (.cells #[.string (p).nm, .int .i64 (p).n0, .int .i64 (p).n1, .int .i64 (p).n2, .int .i64 (p).n3, .int .i64 (p).n4, .slice (p).la (p).labs.length (p).lk, .slice (p).sa (p).sels.length (p).sk, .slice (p).ta (p).trms.length (p).tk, .slice (p).ba (p).bers.length (p).bk, .slice (p).pa (p).prts.length (p).pk, .slice (p).aa (p).aprs.length (p).ak, .bool (p).wd, .slice (p).da (p).spds.length (p).dk, .int .i64 (p).sw, .int .i64 (p).rk, .string (p).ow, .bool (p).dm, .bool (p).pn, .bool (p).lc] 31)).alloc (.cells (tcl []).toArray 41)) 41 (tcl [])
    rw [World.size_alloc, World.size_alloc] at h9
    exact h9
  have HB := Lib.hid hbw
  have HR := Lib.hid hR
  have HT := Lib.hid hT
  have HRp := Lib.hid (show W.rangeAt w.heap.size 0 [.string (p).nm, .int .i64 (p).n0, .int .i64 (p).n1, .int .i64 (p).n2, .int .i64 (p).n3, .int .i64 (p).n4, .slice (p).la (p).labs.length (p).lk, .slice (p).sa (p).sels.length (p).sk, .slice (p).ta (p).trms.length (p).tk, .slice (p).ba (p).bers.length (p).bk, .slice (p).pa (p).prts.length (p).pk, .slice (p).aa (p).aprs.length (p).ak, .bool (p).wd, .slice (p).da (p).spds.length (p).dk, .int .i64 (p).sw, .int .i64 (p).rk, .string (p).ow, .bool (p).dm, .bool (p).pn, .bool (p).lc] from hX.range)
  have Hn := Lib.hid hn
  have hnb := hY.mm
  rw [hn] at hnb
  obtain ⟨L, hL⟩ : ∃ L, whyL ms bs p = L := ⟨_, rfl⟩
  have HLr := Lib.hid (show ∀ (k : Nat), k < n → ∃ q : Nat, q < 9 ∧ L[k]? = some (q : Int) from fun k hk => by
    obtain ⟨m, hm⟩ := mem_at (l := ms) (k := k) (by omega)
    have h9 := whyL_at (bs := bs) (p := p) hm
    have h8 := whyF_range ms bs p m.nm
    refine ⟨(whyF ms bs p m.nm).toNat, by omega, ?_⟩
    rw [← hL, h9]
    congr 1
    omega)
  have HLl := Lib.hid (show L.length = n by rw [← hL]; unfold whyL; rw [List.length_map, hn])
  rw [hL] at HRe ⊢
  rw [hn, hN]
  obtain ⟨T', hTT'⟩ : ∃ T, w.heap.size + 1 = T := ⟨_, rfl⟩
  have hWT : T' + 1 < W.heap.size := by rw [← hTT']; exact hT.lt
  rw [hTT'] at HR HT
  have htt : w.heap.size ≤ T' + 1 ∧ T' + 1 ≠ T' := by omega
  show Calls Tryz.prog 11 #[.slice a n ka, .slice c N kc, .agg #[.string (p).nm, .int .i64 (p).n0, .int .i64 (p).n1, .int .i64 (p).n2, .int .i64 (p).n3, .int .i64 (p).n4, .slice (p).la (p).labs.length (p).lk, .slice (p).sa (p).sels.length (p).sk, .slice (p).ta (p).trms.length (p).tk, .slice (p).ba (p).bers.length (p).bk, .slice (p).pa (p).prts.length (p).pk, .slice (p).aa (p).aprs.length (p).ak, .bool (p).wd, .slice (p).da (p).spds.length (p).dk, .int .i64 (p).sw, .int .i64 (p).rk, .string (p).ow, .bool (p).dm, .bool (p).pn, .bool (p).lc]] w _
  replace hW : W = ((w.alloc (.cells #[.string (p).nm, .int .i64 (p).n0, .int .i64 (p).n1, .int .i64 (p).n2, .int .i64 (p).n3, .int .i64 (p).n4, .slice (p).la (p).labs.length (p).lk, .slice (p).sa (p).sels.length (p).sk, .slice (p).ta (p).trms.length (p).tk, .slice (p).ba (p).bers.length (p).bk, .slice (p).pa (p).prts.length (p).pk, .slice (p).aa (p).aprs.length (p).ak, .bool (p).wd, .slice (p).da (p).spds.length (p).dk, .int .i64 (p).sw, .int .i64 (p).rk, .string (p).ow, .bool (p).dm, .bool (p).pn, .bool (p).lc] 31)).alloc (.cells #[.int .i64 0, .int .i64 0, .int .i64 0, .int .i64 0, .int .i64 0, .int .i64 0, .int .i64 0, .int .i64 0, .int .i64 0] 41)).alloc (.cells #[.int .i64 0, .int .i64 0, .int .i64 0, .int .i64 0, .int .i64 0, .int .i64 0, .int .i64 0, .int .i64 0, .int .i64 0] 41) := hW
  clear hX hbw hY hP hp hN hn hR hT hL
  go_enter Tryz.func11, Tryz.ntmps11
  go_upto_region 2 with (fail)
  rw [← hW]
  clear hW
  go_wp2_with (first
    | ((with_reducible refine at_load (ty := 31) ?_); refine load_cells rfl 31 (.tmp 5) rfl w.heap.size 0 rfl [.string (p).nm, .int .i64 (p).n0, .int .i64 (p).n1, .int .i64 (p).n2, .int .i64 (p).n3, .int .i64 (p).n4, .slice (p).la (p).labs.length (p).lk, .slice (p).sa (p).sels.length (p).sk, .slice (p).ta (p).trms.length (p).tk, .slice (p).ba (p).bers.length (p).bk, .slice (p).pa (p).prts.length (p).pk, .slice (p).aa (p).aprs.length (p).ak, .bool (p).wd, .slice (p).da (p).spds.length (p).dk, .int .i64 (p).sw, .int .i64 (p).rk, .string (p).ow, .bool (p).dm, .bool (p).pn, .bool (p).lc] _ Tryz.underlying31 rfl (by kernel_rfl) HRp.out ?_)
    | (go_at_call 26; (with_reducible refine (HRe.out _ HB.out).mono ?_); rintro e w3 ⟨⟨ar, kr, rfl, hT, hgeq⟩, hb⟩; have HGe := Lib.hid hgeq; have HI3 := Lib.hid hT; have HB3 := Lib.hid (HB.out.trans (hb.mono HB.out.size)); have HT3 := Lib.hid (HT.out.below hb); have HR3 := Lib.hid (HR.out.below hb); clear hb hT hgeq))
  obtain ⟨V3, hV3⟩ : ∃ V3, V3 = w3 := ⟨_, rfl⟩
  rw [← hV3] at HT3 HB3 HR3 HI3 ⊢
  clear hV3 HRp HRe HB HR HT
  go_loopw [18] (fun vi wr => ∃ k : Nat, k ≤ n ∧ vi = .int .i64 k ∧ Blk wr (T' + 1) 41 (tcl (L.take k)) ∧ Only [T' + 1] V3 wr) (fun vi _ => n - (intOf vi).toNat)
  case atStart => exact ⟨0, Nat.zero_le _, rfl, HT3.out, Only.refl _ _⟩
  case round =>
    obtain ⟨k, hk, rfl, hT, hO⟩ := hrel
    have HT := Lib.hid hT
    have HO := Lib.hid hO
    by_cases hlt : k < n
    · obtain ⟨r, hr9, hLk⟩ := HLr.out k hlt
      obtain ⟨q, o, rfl, hq, hc⟩ := HI3.out (by rw [HLl.out]; omega)
      have hqT : q ≠ T' + 1 := fun e => by
        have h8 := HGe.out q o rfl
        omega
      have c0 : wr.cell? ⟨q, o + k, none⟩ = some (.int .i64 r) := by
        have h9 := hc k _ hLk 0 (by decide)
        rw [Nat.mul_one] at h9
        rw [World.cell?_of_block (hO.block q hq (by simpa using hqT))]
        exact h9
      have e0 : wr.cell? ⟨T' + 1, r, none⟩ = some (.int .i64 (tc (L.take k) (r : Int) : Nat)) := (hT.cell r).trans (tcl_at _ hr9)
      have g0 := hT.frozen r
      have hlT := hT.lt
      have HNx := Lib.hid (tcl_next hLk hr9)
      have htl := tc_le (L.take k) (r : Int)
      have htk := List.length_take_le k L
      obtain ⟨t, ht⟩ : ∃ t, tc (L.take k) (r : Int) = t := ⟨_, rfl⟩
      rw [ht] at e0 HNx htl
      have hw9 : IntKind.i64.wrap ((t : Int) + 1) = (t : Int) + 1 := wrap_in (by omega) (by omega)
      clear hT hO hc hLk ht
      go_wp2
      go_roundw
      case rel => exact ⟨k + 1, by omega, by go_num, by rw [← HNx.out]; exact HT.out.set r _, HO.out.setCell (.inl (by simp)) _⟩
      case measure => simp [intOf]; omega
    · obtain rfl : k = n := by omega
      have HTe := Lib.hid (show Blk wr (T' + 1) 41 (tcl L) by
        have h9 := hT
        rw [List.take_of_length_le (Nat.le_of_eq HLl.out)] at h9
        exact h9)
      have HRe := Lib.hid (HR3.out.only hO (by simp))
      have HBe := Lib.hid (hO.below1 HB3.out HB3.out.size htt.1)
      have hlT := hT.lt
      clear hT hO HT HO
      go_wp2_with (first
        | ((with_reducible refine at_load (ty := 41) ?_); refine load_cells rfl 41 (.tmp 7) rfl (T' + 1) 0 rfl (tcl L) _ Tryz.underlying41 rfl (by kernel_rfl) (fun j v hj => by rw [Nat.zero_add, HTe.out.cell]; exact hj) ?_)
        | ((with_reducible refine at_store (ty := 41) ?_); refine store_blk rfl 41 (.tmp 6) (.tmp 28) rfl T' rfl (tcl L) rfl 41 (tcl []) HRe.out (by kernel_rfl) rfl (tcl_one L) ?_; intro w7 hb7 ho7; have HB7 := Lib.hid hb7; have HO7 := Lib.hid ho7; clear hb7 ho7))
      have q0 : w7.cell? ⟨T', 0, none⟩ = some (.int .i64 (tc L 0 : Nat)) := HB7.out.cell 0
      have q1 : w7.cell? ⟨T', 1, none⟩ = some (.int .i64 (tc L 1 : Nat)) := HB7.out.cell 1
      have q2 : w7.cell? ⟨T', 2, none⟩ = some (.int .i64 (tc L 2 : Nat)) := HB7.out.cell 2
      have q3 : w7.cell? ⟨T', 3, none⟩ = some (.int .i64 (tc L 3 : Nat)) := HB7.out.cell 3
      have q4 : w7.cell? ⟨T', 4, none⟩ = some (.int .i64 (tc L 4 : Nat)) := HB7.out.cell 4
      have q5 : w7.cell? ⟨T', 5, none⟩ = some (.int .i64 (tc L 5 : Nat)) := HB7.out.cell 5
      have q6 : w7.cell? ⟨T', 6, none⟩ = some (.int .i64 (tc L 6 : Nat)) := HB7.out.cell 6
      have q7 : w7.cell? ⟨T', 7, none⟩ = some (.int .i64 (tc L 7 : Nat)) := HB7.out.cell 7
      have q8 : w7.cell? ⟨T', 8, none⟩ = some (.int .i64 (tc L 8 : Nat)) := HB7.out.cell 8
      refine bodyPost_ret (by simp [results, Tryz.results11, go_sem, q0, q1, q2, q3, q4, q5, q6, q7, q8]; rfl) rfl ⟨rfl, HO7.out.below1 HBe.out HBe.out.size (by omega)⟩
set_option maxRecDepth 100000 in
set_option maxHeartbeats 4000000 in
theorem feas_any (a c : Option Addr) (ka kc : Nat) (ms : List Mac) (bs : List Bd) (w : World) (hY : YA w a ms c bs) :
    Calls Tryz.prog 13 #[.slice a ms.length ka, .slice c bs.length kc] w fun e w' => e = .returned (.bool (feasF ms bs)) ∧ Below w.heap.size w w' := by
  obtain ⟨N, hN⟩ : ∃ N, bs.length = N := ⟨_, rfl⟩
  obtain ⟨n, hn⟩ : ∃ n, ms.length = n := ⟨_, rfl⟩
  obtain ⟨R, hR⟩ : ∃ R, feasF ms bs = R := ⟨_, rfl⟩
  have HR := Lib.hid (show bs.all (feasB ms bs) = R from hR)
  have HN := Lib.hid hN
  have Hn := Lib.hid hn
  have HYA := Lib.hid hY
  have hNb := hY.bb
  rw [hN] at hNb
  rw [hn, hN, hR]
  clear hn hN hR hY
  go_enter Tryz.func13, Tryz.ntmps13
  go_wp2
  go_loopw [8] (fun vi wr => ∃ k : Nat, k ≤ N ∧ vi = .int .i64 k ∧ (bs.take k).all (feasB ms bs) = true ∧ Below w.heap.size w wr) (fun vi _ => N - (intOf vi).toNat)
  case atStart => exact ⟨0, Nat.zero_le _, rfl, rfl, by (repeat' (first | with_reducible exact Below.refl _ _ | with_reducible assumption | with_reducible refine Below.drew ?_ | with_reducible refine below_drewN' ?_ _ | with_reducible refine Below.alloc ?_ ?_ _ | with_reducible refine Below.setCell ?_ ?_ _ | with_reducible refine below_step (by assumption) ?_ ?_ | omega | (simp; done) | (simp; omega)))⟩
  case round =>
    obtain ⟨k, hk, rfl, hE, hB⟩ := hrel
    have HE := Lib.hid hE
    have HB := Lib.hid hB
    by_cases hlt : k < N
    · obtain ⟨b, hbk⟩ := mem_at (l := bs) (k := k) (by rw [HN.out]; exact hlt)
      have hbm := List.mem_of_getElem? hbk
      obtain ⟨q, o, rfl, hq, hc⟩ := (HYA.out.bl.mono hB) (by rw [HN.out]; omega)
      have c20 : wr.cell? ⟨q, o + k * 21 + 20, none⟩ = some (.string b.on) := hc k b hbk 20 (by decide)
      have HRq := Lib.hid (show wr.rangeAt q (o + k * 21) [.string (b.p).nm, .int .i64 (b.p).n0, .int .i64 (b.p).n1, .int .i64 (b.p).n2, .int .i64 (b.p).n3, .int .i64 (b.p).n4, .slice (b.p).la (b.p).labs.length (b.p).lk, .slice (b.p).sa (b.p).sels.length (b.p).sk, .slice (b.p).ta (b.p).trms.length (b.p).tk, .slice (b.p).ba (b.p).bers.length (b.p).bk, .slice (b.p).pa (b.p).prts.length (b.p).pk, .slice (b.p).aa (b.p).aprs.length (b.p).ak, .bool (b.p).wd, .slice (b.p).da (b.p).spds.length (b.p).dk, .int .i64 (b.p).sw, .int .i64 (b.p).rk, .string (b.p).ow, .bool (b.p).dm, .bool (b.p).pn, .bool (b.p).lc] from fun j v hj => by
        have hj20 : j < 20 := (List.getElem?_eq_some_iff.1 hj).1
        rw [hc k b hbk j (by omega)]
        show (prow b.p ++ [.string b.on])[j]? = _
        rw [List.getElem?_append_left (by rw [prow_len]; exact hj20)]
        exact hj)
      have HWh := Lib.hid (show ∀ V, Below wr.heap.size wr V → Calls Tryz.prog 6 #[.slice a n ka, .slice (some ⟨q, o, none⟩) N kc, .agg #[.string (b.p).nm, .int .i64 (b.p).n0, .int .i64 (b.p).n1, .int .i64 (b.p).n2, .int .i64 (b.p).n3, .int .i64 (b.p).n4, .slice (b.p).la (b.p).labs.length (b.p).lk, .slice (b.p).sa (b.p).sels.length (b.p).sk, .slice (b.p).ta (b.p).trms.length (b.p).tk, .slice (b.p).ba (b.p).bers.length (b.p).bk, .slice (b.p).pa (b.p).prts.length (b.p).pk, .slice (b.p).aa (b.p).aprs.length (b.p).ak, .bool (b.p).wd, .slice (b.p).da (b.p).spds.length (b.p).dk, .int .i64 (b.p).sw, .int .i64 (b.p).rk, .string (b.p).ow, .bool (b.p).dm, .bool (b.p).pn, .bool (b.p).lc], .string b.on] V fun e w' => e = .returned (.int .i64 (whyF ms bs b.p b.on)) ∧ Below V.heap.size V w' from fun V hV => by
        have hbv := HB.out.trans (hV.mono HB.out.size)
        have h9 := fwhy_any a (some ⟨q, o, none⟩) ka kc ms bs b.p b.on V (HYA.out.mono hbv) ((HYA.out.mono hbv).bi b hbm).here (HYA.out.lb b hbm)
        rw [Hn.out, HN.out] at h9
        exact h9)
      have hfb : feasB ms bs b = (decide (b.on = emp) || decide (whyF ms bs b.p b.on = 0)) := rfl
      obtain ⟨r, hr⟩ : ∃ r, whyF ms bs b.p b.on = r := ⟨_, rfl⟩
      rw [hr] at HWh hfb
      have HTk := Lib.hid (show feasB ms bs b = true → (bs.take (k + 1)).all (feasB ms bs) = true from fun h => by
        rw [List.take_add_one, hbk, List.all_append, HE.out]
        show (true && (feasB ms bs b && true)) = true
        rw [h]
        rfl)
      have HTn := Lib.hid (show feasB ms bs b = false → R = false from fun h => by
        rw [← HR.out, List.all_eq_false]
        exact ⟨b, hbm, by rw [h]; exact Bool.false_ne_true⟩)
      clear hE hB hc hbk hbm hr
      by_cases he : b.on = emp
      · have q1 := (emp_yes he).2.2
        have HNx := Lib.hid (HTk.out (by rw [hfb, decide_eq_true he]; rfl))
        clear hfb he HTk HTn
        go_upto_region 4 with (fail)
        have hcH := held_cell
        refine region_rel (by kernel_rfl) (by kernel_rfl) ?_
        repeat
          ((with_reducible refine relStep (fun K hK => ?_))
           (have HK := Lib.hid hK)
           clear hK
           (apply relInl
            · intro r n hf
              have Hf := Lib.hid hf
              clear hf
              (first
                | (((with_reducible refine at_rel (ty := 31) ?_); refine rel_load rfl q (o + k * 21) rfl [.string (b.p).nm, .int .i64 (b.p).n0, .int .i64 (b.p).n1, .int .i64 (b.p).n2, .int .i64 (b.p).n3, .int .i64 (b.p).n4, .slice (b.p).la (b.p).labs.length (b.p).lk, .slice (b.p).sa (b.p).sels.length (b.p).sk, .slice (b.p).ta (b.p).trms.length (b.p).tk, .slice (b.p).ba (b.p).bers.length (b.p).bk, .slice (b.p).pa (b.p).prts.length (b.p).pk, .slice (b.p).aa (b.p).aprs.length (b.p).ak, .bool (b.p).wd, .slice (b.p).da (b.p).spds.length (b.p).dk, .int .i64 (b.p).sw, .int .i64 (b.p).rk, .string (b.p).ow, .bool (b.p).dm, .bool (b.p).pn, .bool (b.p).lc] _ Tryz.underlying31 rfl (by kernel_rfl) (rangeAt_mono HRq.out hq n.below) rfl))
                | (unfold relAt
                   go_simp
                   (first | (refine relUpon_val ?_ (Below.refl _ _); exact rfl) | exact rfl | (refine relUpon_enter ?_; (go_at_call 6; (with_reducible refine (HWh.out _ n.below).mono ?_); rintro e w9 ⟨rfl, hb⟩; exact ⟨⟨_, rfl, rfl⟩, hb⟩)))))
            (simp only [Act.put, List.setIfInBounds_toArray, List.set_cons_zero, List.set_cons_succ])
            (with_reducible refine HK.out _ _ ?_)
            clear HK K))
        refine relNil ?_
        intro r9 n9 hx9
        clear hcH
        (try simp only [List.nil_append, List.cons_append, List.mem_cons, List.not_mem_nil, or_false, forall_eq_or_imp, forall_eq, false_implies, implies_true] at hx9)
        obtain ⟨w9, hb9⟩ := n9
        (try dsimp only)
        obtain ⟨hc9, hf9⟩ := bcell hb9
        have hz9 := hb9.size
        (try simp at hz9)
        go_wp2
        go_roundw
        case rel => exact ⟨k + 1, by omega, by go_num, HNx.out, HB.out.trans (hb9.mono HB.out.size)⟩
        case measure => simp [intOf]; omega
      · have q1 := (emp_no he).2.2
        rw [decide_eq_false he] at hfb
        by_cases h0 : r = 0
        · subst h0
          have HNx := Lib.hid (HTk.out (by rw [hfb]; rfl))
          clear hfb he HTk HTn
          go_upto_region 4 with (fail)
          have hcH := held_cell
          refine region_rel (by kernel_rfl) (by kernel_rfl) ?_
          repeat
            ((with_reducible refine relStep (fun K hK => ?_))
             (have HK := Lib.hid hK)
             clear hK
             (apply relInl
              · intro r n hf
                have Hf := Lib.hid hf
                clear hf
                (first
                  | (((with_reducible refine at_rel (ty := 31) ?_); refine rel_load rfl q (o + k * 21) rfl [.string (b.p).nm, .int .i64 (b.p).n0, .int .i64 (b.p).n1, .int .i64 (b.p).n2, .int .i64 (b.p).n3, .int .i64 (b.p).n4, .slice (b.p).la (b.p).labs.length (b.p).lk, .slice (b.p).sa (b.p).sels.length (b.p).sk, .slice (b.p).ta (b.p).trms.length (b.p).tk, .slice (b.p).ba (b.p).bers.length (b.p).bk, .slice (b.p).pa (b.p).prts.length (b.p).pk, .slice (b.p).aa (b.p).aprs.length (b.p).ak, .bool (b.p).wd, .slice (b.p).da (b.p).spds.length (b.p).dk, .int .i64 (b.p).sw, .int .i64 (b.p).rk, .string (b.p).ow, .bool (b.p).dm, .bool (b.p).pn, .bool (b.p).lc] _ Tryz.underlying31 rfl (by kernel_rfl) (rangeAt_mono HRq.out hq n.below) rfl))
                  | (unfold relAt
                     go_simp
                     (first | (refine relUpon_val ?_ (Below.refl _ _); exact rfl) | exact rfl | (refine relUpon_enter ?_; (go_at_call 6; (with_reducible refine (HWh.out _ n.below).mono ?_); rintro e w9 ⟨rfl, hb⟩; exact ⟨⟨_, rfl, rfl⟩, hb⟩)))))
              (simp only [Act.put, List.setIfInBounds_toArray, List.set_cons_zero, List.set_cons_succ])
              (with_reducible refine HK.out _ _ ?_)
              clear HK K))
          refine relNil ?_
          intro r9 n9 hx9
          clear hcH
          (try simp only [List.nil_append, List.cons_append, List.mem_cons, List.not_mem_nil, or_false, forall_eq_or_imp, forall_eq, false_implies, implies_true] at hx9)
          obtain ⟨w9, hb9⟩ := n9
          (try dsimp only)
          obtain ⟨hc9, hf9⟩ := bcell hb9
          have hz9 := hb9.size
          (try simp at hz9)
          go_wp2
          go_roundw
          case rel => exact ⟨k + 1, by omega, by go_num, HNx.out, HB.out.trans (hb9.mono HB.out.size)⟩
          case measure => simp [intOf]; omega
        · have q0 : (r == 0) = false := by simpa using h0
          have HRf := Lib.hid (HTn.out (by rw [hfb, decide_eq_false h0]; rfl))
          clear hfb he HTk HTn h0
          go_upto_region 4 with (fail)
          have hcH := held_cell
          refine region_rel (by kernel_rfl) (by kernel_rfl) ?_
          repeat
            ((with_reducible refine relStep (fun K hK => ?_))
             (have HK := Lib.hid hK)
             clear hK
             (apply relInl
              · intro r n hf
                have Hf := Lib.hid hf
                clear hf
                (first
                  | (((with_reducible refine at_rel (ty := 31) ?_); refine rel_load rfl q (o + k * 21) rfl [.string (b.p).nm, .int .i64 (b.p).n0, .int .i64 (b.p).n1, .int .i64 (b.p).n2, .int .i64 (b.p).n3, .int .i64 (b.p).n4, .slice (b.p).la (b.p).labs.length (b.p).lk, .slice (b.p).sa (b.p).sels.length (b.p).sk, .slice (b.p).ta (b.p).trms.length (b.p).tk, .slice (b.p).ba (b.p).bers.length (b.p).bk, .slice (b.p).pa (b.p).prts.length (b.p).pk, .slice (b.p).aa (b.p).aprs.length (b.p).ak, .bool (b.p).wd, .slice (b.p).da (b.p).spds.length (b.p).dk, .int .i64 (b.p).sw, .int .i64 (b.p).rk, .string (b.p).ow, .bool (b.p).dm, .bool (b.p).pn, .bool (b.p).lc] _ Tryz.underlying31 rfl (by kernel_rfl) (rangeAt_mono HRq.out hq n.below) rfl))
                  | (unfold relAt
                     go_simp
                     (first | (refine relUpon_val ?_ (Below.refl _ _); exact rfl) | exact rfl | (refine relUpon_enter ?_; (go_at_call 6; (with_reducible refine (HWh.out _ n.below).mono ?_); rintro e w9 ⟨rfl, hb⟩; exact ⟨⟨_, rfl, rfl⟩, hb⟩)))))
              (simp only [Act.put, List.setIfInBounds_toArray, List.set_cons_zero, List.set_cons_succ])
              (with_reducible refine HK.out _ _ ?_)
              clear HK K))
          refine relNil ?_
          intro r9 n9 hx9
          clear hcH
          (try simp only [List.nil_append, List.cons_append, List.mem_cons, List.not_mem_nil, or_false, forall_eq_or_imp, forall_eq, false_implies, implies_true] at hx9)
          obtain ⟨w9, hb9⟩ := n9
          (try dsimp only)
          obtain ⟨hc9, hf9⟩ := bcell hb9
          have hz9 := hb9.size
          (try simp at hz9)
          go_wp2
          go_ret
          exact ⟨by first | rfl | (rw [HRf.out]; first | done | rfl), HB.out.trans (hb9.mono HB.out.size)⟩
    · obtain rfl : k = N := by omega
      have HRt := Lib.hid (show R = true by
        rw [← HR.out]
        have h9 := hE
        rw [List.take_of_length_le (by rw [HN.out]; exact Nat.le_refl _)] at h9
        exact h9)
      clear hE hB
      go_wp2
      go_ret
      exact ⟨by first | rfl | (rw [HRt.out]; first | done | rfl), HB.out⟩
end Go.Proofs.YthbpnfpalcgfeaaGreat
