/-
  Sched: Best of the program.
-/
import Derived.Test.YtdfadbpepmkicaaGreatFt6x
import Derived.Shelf.Abstract
import Derived.Laws.Tables
import Derived.Test.YtdfadbpepmkicaaGreatRows
import Derived.WalkKit
import Derived.WalkSpells
import Derived.WalkLawsBesides
import Derived.BigQuiet
import Derived.Lib.Hide
import Derived.Deep.Cut
import Derived.Test.YtdfadbpepmkicaaGreatScOx
import Derived.Test.YtdfadbpepmkicaaGreatMBx
import Derived.Deep.MidRow
import Derived.Laws.OwnMore
import Derived.Deep.AppendLies
import Derived.Test.YtdfadbpepmkicaaGreatNEx
import Derived.Test.YtdfadbpepmkicaaGreatFt3x
import Derived.Test.YtdfadbpepmkicaaGreatMGx
import Derived.Test.YtdfadbpepmkicaaGreatNHx
import Derived.Deep.QuietTactic
import Derived.Deep.RegionWith
namespace Go.Proofs.YtdfadbpepmkicaaGreat
open Go.RowKit
set_option linter.unusedVariables false
set_option linter.unusedSimpArgs false
theorem Only.setRow {g : Nat} (w : World) (cs : Array Value) : Only [g] w (w.setRow g cs) :=
  ⟨rfl, rfl, rfl, by simp [World.setRow], fun k hk hn => by
    have hne : g ≠ k := by simpa using Ne.symm (by simpa using hn : ¬ k = g)
    simp [World.setRow, Array.getElem?_modify, hne]⟩
theorem store_blk {P : Program} {ops : Array Oper} {Q : Exit → Act → World → Prop} {a : Act} {w : World} {rest : List Oper} {o : Oper} (hw : Region.wanted o (yielded ops a.tmps) = true) (ty : TypeId) (x y : Operand) (ho : o.op = .store ty x y)
    (g : Nat) (hx : a.eval x = .pointer (some ⟨g, 0, none⟩)) (cs : List Value) (hy : a.eval y = .agg cs.toArray) (t : TypeId) (old : List Value) (hb : Blk w g t old) (hi : (P.info? ty).map (·.size) = some cs.length) (hold : old.length = cs.length) (h1 : ∀ u ∈ cs, u.oneCell' = true)
    (h : ∀ w', Blk w' g t cs → Only [g] w w' → wpList P ops Q rest (a.put o.dst undef) w') : wpList P ops Q (o :: rest) a w :=
  BigFrame.wpList_want hw fun K hK => wp_store_row ty x y ho g cs.toArray hx hy t old.toArray hb (by simpa using hi) (by simpa using hold) (by rw [Array.all_eq_true_iff_forall_mem]; intro u hu; exact h1 u (by simpa using hu))
    (hK _ _ (h _ (setRow_heap w g old.toArray cs.toArray t (0, 0) hb) (Only.setRow w _)))
theorem own_base {w : World} {B B' : Nat} {v : Value} {n k : Nat} {e : TypeId} {xs : List Value} (h : w.ownsRow B e k v n xs) (hb : B' ≤ B) : w.ownsRow B' e k v n xs := by
  obtain ⟨h1, h2⟩ := h
  refine ⟨h1, ?_⟩
  rcases h2 with h2 | ⟨g, cap, cur, e1, e2, r⟩
  · exact .inl h2
  · exact .inr ⟨g, cap, cur, e1, Nat.le_trans hb e2, r⟩
def tc (L : List Int) (r : Int) : Nat := (L.filter fun x => decide (x = r)).length
def whyL (ms : List Mac) (bs : List Bd) (p : Pd) : List Int := ms.map fun m => whyF ms bs p m.nm
set_option maxRecDepth 100000 in
set_option maxHeartbeats 4000000 in
theorem reas_any (a c : Option Addr) (ka kc : Nat) (ms : List Mac) (bs : List Bd) (p : Pd) (w : World) (hY : YA w a ms c bs) (hP : PodAt w p) (hp : lightP p = true) (n N : Nat) (hn : ms.length = n) (hN : bs.length = N) :
    Calls Tryz.prog 73 #[.slice a n ka, .func (.func 74) #[.agg #[.slice a n ka, .slice c N kc, .string (p).nm, .int .i64 (p).n0, .int .i64 (p).n1, .int .i64 (p).n2, .int .i64 (p).n3, .int .i64 (p).n4, .slice (p).la (p).labs.length (p).lk, .slice (p).sa (p).sels.length (p).sk, .slice (p).ta (p).trms.length (p).tk, .slice (p).ba (p).bers.length (p).bk, .slice (p).pa (p).prts.length (p).pk, .slice (p).aa (p).aprs.length (p).ak, .bool (p).wd, .slice (p).da (p).spds.length (p).dk, .int .i64 (p).sw, .int .i64 (p).rk, .string (p).ow, .bool (p).dm, .bool (p).pn, .bool (p).lc]] #[]] w fun e w' => (∃ ar kr, e = .returned (.slice ar n kr) ∧ IntL w' ar (whyL ms bs p) ∧ ∀ q o, ar = some ⟨q, o, none⟩ → w.heap.size ≤ q) ∧ Below w.heap.size w w' := by
  have h9 := reasons_any a ka ms 74 #[.agg #[.slice a n ka, .slice c N kc, .string (p).nm, .int .i64 (p).n0, .int .i64 (p).n1, .int .i64 (p).n2, .int .i64 (p).n3, .int .i64 (p).n4, .slice (p).la (p).labs.length (p).lk, .slice (p).sa (p).sels.length (p).sk, .slice (p).ta (p).trms.length (p).tk, .slice (p).ba (p).bers.length (p).bk, .slice (p).pa (p).prts.length (p).pk, .slice (p).aa (p).aprs.length (p).ak, .bool (p).wd, .slice (p).da (p).spds.length (p).dk, .int .i64 (p).sw, .int .i64 (p).rk, .string (p).ow, .bool (p).dm, .bool (p).pn, .bool (p).lc]] (whyF ms bs p) w hY.ml hY.mm (enters_of Tryz.func74 (by kernel_rfl) rfl) (fun m hm V hV => qwhy_any a c ka kc ms bs p m.nm V (hY.mono hV) (hP.mono hV) hp n N hn hN)
  rw [hn] at h9
  refine h9.mono fun e w' h => ?_
  obtain ⟨⟨v, rfl, hv⟩, hb⟩ := h
  obtain ⟨ar, kr, rfl, -, ht⟩ := IsL.of_own pcs_len (by decide) hv
  exact ⟨⟨ar, kr, by rw [List.length_map, hn], ht, fun q o e => by subst e; exact (hv.lt q rfl).1⟩, hb⟩
theorem whyL_at {ms : List Mac} {bs : List Bd} {p : Pd} {k : Nat} {m : Mac} (h : ms[k]? = some m) : (whyL ms bs p)[k]? = some (whyF ms bs p m.nm) := by
  unfold whyL
  rw [List.getElem?_map, h]
  rfl
def isOk (ms : List Mac) (bs : List Bd) (p : Pd) (m : Mac) : Bool := decide (whyF ms bs p m.nm = 0)
theorem where_eq (ms : List Mac) (bs : List Bd) (p : Pd) : whereF ms bs p = (ms.filter (isOk ms bs p)).map Mac.nm := rfl
theorem where_next {ms : List Mac} {k : Nat} {m : Mac} (h : ms[k]? = some m) (f : Mac → Bool) : ((ms.take (k + 1)).filter f).map Mac.nm = ((ms.take k).filter f).map Mac.nm ++ (if f m = true then [m.nm] else []) := by
  rw [List.take_add_one, h, List.filter_append, List.map_append]
  congr 1
  show (List.filter f [m]).map Mac.nm = _
  rw [List.filter_cons]
  split <;> rfl
set_option maxRecDepth 100000 in
set_option maxHeartbeats 4000000 in
theorem where_any (a c : Option Addr) (ka kc : Nat) (ms : List Mac) (bs : List Bd) (p : Pd) (w : World) (hY : YA w a ms c bs) (hP : PodAt w p) (hp : lightP p = true) :
    Calls Tryz.prog 45 #[.slice a ms.length ka, .slice c bs.length kc, .agg (prow p).toArray] w (GivesT w (whereF ms bs p)) := by
  obtain ⟨N, hN⟩ : ∃ N, bs.length = N := ⟨_, rfl⟩
  obtain ⟨n, hn⟩ : ∃ n, ms.length = n := ⟨_, rfl⟩
  have HRe := Lib.hid (fun V (hV : Below w.heap.size w V) => reas_any a c ka kc ms bs p V (hY.mono hV) (hP.mono hV) hp n N hn hN)
  obtain ⟨W, hW⟩ : ∃ W, W = (w.alloc (.cells #[.string (p).nm, .int .i64 (p).n0, .int .i64 (p).n1, .int .i64 (p).n2, .int .i64 (p).n3, .int .i64 (p).n4, .slice (p).la (p).labs.length (p).lk, .slice (p).sa (p).sels.length (p).sk, .slice (p).ta (p).trms.length (p).tk, .slice (p).ba (p).bers.length (p).bk, .slice (p).pa (p).prts.length (p).pk, .slice (p).aa (p).aprs.length (p).ak, .bool (p).wd, .slice (p).da (p).spds.length (p).dk, .int .i64 (p).sw, .int .i64 (p).rk, .string (p).ow, .bool (p).dm, .bool (p).pn, .bool (p).lc] 40)) := ⟨_, rfl⟩
  have hX : Box w.heap.size (prow p) W := by rw [hW]; exact (Box.new w (prow p) 40)
  have hbw : Below w.heap.size w W := by rw [hW]; (repeat' (first | with_reducible exact Below.refl _ _ | with_reducible assumption | with_reducible refine Below.drew ?_ | with_reducible refine below_drewN' ?_ _ | with_reducible refine Below.alloc ?_ ?_ _ | with_reducible refine Below.setCell ?_ ?_ _ | with_reducible refine below_step (by assumption) ?_ ?_ | omega | (simp; done) | (simp; omega)))
  have HB := Lib.hid hbw
  have HRp := Lib.hid (show W.rangeAt w.heap.size 0 [.string (p).nm, .int .i64 (p).n0, .int .i64 (p).n1, .int .i64 (p).n2, .int .i64 (p).n3, .int .i64 (p).n4, .slice (p).la (p).labs.length (p).lk, .slice (p).sa (p).sels.length (p).sk, .slice (p).ta (p).trms.length (p).tk, .slice (p).ba (p).bers.length (p).bk, .slice (p).pa (p).prts.length (p).pk, .slice (p).aa (p).aprs.length (p).ak, .bool (p).wd, .slice (p).da (p).spds.length (p).dk, .int .i64 (p).sw, .int .i64 (p).rk, .string (p).ow, .bool (p).dm, .bool (p).pn, .bool (p).lc] from hX.range)
  have HYA := Lib.hid hY
  have Hn := Lib.hid hn
  have hnb := hY.mm
  rw [hn] at hnb
  rw [hn, hN, where_eq]
  obtain ⟨i0, hi, hz0, hz1, hz2⟩ := info_parts Tryz.info9
  have Hi := Lib.hid hi
  have Hz0 := Lib.hid hz0
  have Hz1 := Lib.hid hz1
  have Hz2 := Lib.hid hz2
  clear hi hz0 hz1 hz2
  show Calls Tryz.prog 45 #[.slice a n ka, .slice c N kc, .agg #[.string (p).nm, .int .i64 (p).n0, .int .i64 (p).n1, .int .i64 (p).n2, .int .i64 (p).n3, .int .i64 (p).n4, .slice (p).la (p).labs.length (p).lk, .slice (p).sa (p).sels.length (p).sk, .slice (p).ta (p).trms.length (p).tk, .slice (p).ba (p).bers.length (p).bk, .slice (p).pa (p).prts.length (p).pk, .slice (p).aa (p).aprs.length (p).ak, .bool (p).wd, .slice (p).da (p).spds.length (p).dk, .int .i64 (p).sw, .int .i64 (p).rk, .string (p).ow, .bool (p).dm, .bool (p).pn, .bool (p).lc]] w _
  clear hX hbw hY hP hp hN hn
  go_enter Tryz.func45, Tryz.ntmps45
  go_upto_region 1 with (fail)
  rw [← hW]
  clear hW
  go_wp2_with (first
    | ((with_reducible refine at_load (ty := 40) ?_); refine load_cells rfl 40 (.tmp 5) rfl w.heap.size 0 rfl [.string (p).nm, .int .i64 (p).n0, .int .i64 (p).n1, .int .i64 (p).n2, .int .i64 (p).n3, .int .i64 (p).n4, .slice (p).la (p).labs.length (p).lk, .slice (p).sa (p).sels.length (p).sk, .slice (p).ta (p).trms.length (p).tk, .slice (p).ba (p).bers.length (p).bk, .slice (p).pa (p).prts.length (p).pk, .slice (p).aa (p).aprs.length (p).ak, .bool (p).wd, .slice (p).da (p).spds.length (p).dk, .int .i64 (p).sw, .int .i64 (p).rk, .string (p).ow, .bool (p).dm, .bool (p).pn, .bool (p).lc] _ Tryz.underlying40 rfl (by kernel_rfl) HRp.out ?_)
    | (go_at_call 73; (with_reducible refine (HRe.out _ HB.out).mono ?_); rintro e w3 ⟨⟨ar, kr, rfl, hT, -⟩, hb⟩; have HT3 := Lib.hid hT; have HB3 := Lib.hid (HB.out.trans (hb.mono HB.out.size)); clear hb hT))
  obtain ⟨V3, hV3⟩ : ∃ V3, V3 = w3 := ⟨_, rfl⟩
  rw [← hV3] at HT3 HB3 ⊢
  clear hV3 HRp HRe
  go_loopw [7, 18] (fun vo vi wr => ∃ (k : Nat) (Q : List ByteArray), k ≤ n ∧ vi = .int .i64 k ∧ Q = ((ms.take k).filter (isOk ms bs p)).map Mac.nm ∧ Q.length ≤ k ∧ wr.ownsRow V3.heap.size 9 1 vo Q.length (Q.flatMap scs) ∧ Below V3.heap.size V3 wr) (fun _ vi _ => n - (intOf vi).toNat)
  case atStart => exact ⟨0, [], Nat.zero_le _, rfl, rfl, Nat.le_refl _, World.ownsRow_nil _ _ _ _, Below.refl _ _⟩
  case round =>
    obtain ⟨k, Q, hk, rfl, hE, hLk, hO, hB⟩ := hrel
    have HE := Lib.hid hE
    have HB := Lib.hid hB
    have HO := Lib.hid hO
    have hbz := hB.size
    obtain ⟨ao, ko, rfl⟩ := own_sl hO
    by_cases hlt : k < n
    · obtain ⟨m, hm⟩ := mem_at (l := ms) (k := k) (by rw [Hn.out]; exact hlt)
      obtain ⟨q, o, rfl, hq, hc⟩ := (HT3.out.mono hB) (by unfold whyL; rw [List.length_map, Hn.out]; omega)
      have c0 : wr.cell? ⟨q, o + k, none⟩ = some (.int .i64 (whyF ms bs p m.nm)) := by
        have h9 := hc k _ (whyL_at hm) 0 (by decide)
        rw [Nat.mul_one] at h9
        exact h9
      obtain ⟨b, f, rfl, hb, hd⟩ := (HYA.out.ml.mono (HB3.out.trans (hB.mono HB3.out.size))) (by rw [Hn.out]; omega)
      have d0 : wr.cell? ⟨b, f + k * 10, none⟩ = some (.string m.nm) := hd k m hm 0 (by decide)
      have hnx := where_next hm (isOk ms bs p)
      rw [← hE] at hnx
      have hi : isOk ms bs p m = decide (whyF ms bs p m.nm = 0) := rfl
      rw [hi] at hnx
      obtain ⟨r, hr⟩ : ∃ r, whyF ms bs p m.nm = r := ⟨_, rfl⟩
      rw [hr] at c0 hnx
      obtain ⟨nm, hnm⟩ : ∃ nm, m.nm = nm := ⟨_, rfl⟩
      rw [hnm] at d0 hnx
      clear hE hO hB hc hd hm hi hr hnm
      by_cases h0 : r = 0
      · subst h0
        rw [if_pos (by decide)] at hnx
        have HNx := Lib.hid hnx.symm
        clear hnx
        go_wp2_with (at_builtin; refine wpList_append_src rfl (.tmp 25) (.tmp 31) 46 rfl V3.heap.size 9 i0 _ 1 16 Tryz.underlying46 Hi.out Hz0.out Hz1.out Hz2.out rfl (by decide) _ Q.length (Q.flatMap scs) rfl (HO.out.alloc _) (some ⟨wr.heap.size, 0, none⟩) 1 1 (scs nm) rfl rfl (fun q e => by injection e with e; rw [← e]; exact news_at _ _ _) (fun e => by cases e) (scs_one nm) (by unfold maxLen; omega) (by omega) (by simp; omega) ?_; intro v6 w6 hown6 hgrow6; obtain ⟨a6, k6, rfl⟩ := own_sl hown6; have HB6 := Lib.hid (own_below (HO.out.alloc _) (HB.out.alloc hbz _) (by simp; omega) hgrow6); have HO6 := Lib.hid hown6; clear hown6 hgrow6)
        go_roundw
        case rel =>
          refine ⟨k + 1, Q ++ [nm], by omega, by go_num, HNx.out, by rw [List.length_append]; show Q.length + 1 ≤ _; omega, ?_, HB6.out⟩
          rw [List.length_append, List.flatMap_append]
          have h9 := HO6.out
          simpa using h9
        case measure => simp [intOf]; omega
      · have q0 : (r == 0) = false := by simpa using h0
        rw [if_neg (by rw [decide_eq_false h0]; exact Bool.false_ne_true), List.append_nil] at hnx
        have HNx := Lib.hid hnx.symm
        clear hnx h0
        go_wp2
        go_roundw
        case rel => exact ⟨k + 1, Q, by omega, by go_num, HNx.out, by omega, HO.out, HB.out⟩
        case measure => simp [intOf]; omega
    · obtain rfl : k = n := by omega
      have HL := Lib.hid (show Q = (ms.filter (isOk ms bs p)).map Mac.nm by rw [hE, List.take_of_length_le (by rw [Hn.out]; exact Nat.le_refl _)])
      have HBf := Lib.hid (HB3.out.trans (hB.mono HB3.out.size))
      have HOf := Lib.hid (own_base hO HB3.out.size)
      clear hE hO hB
      go_wp2
      refine bodyPost_ret (v := .slice ao Q.length ko) (by simp [results, Tryz.results45, go_sem]) rfl ⟨⟨_, rfl, by rw [← HL.out]; exact HOf.out⟩, HBf.out⟩
end Go.Proofs.YtdfadbpepmkicaaGreat
namespace Go.Proofs.YtdfadbpepmkicaaGreat
open Go.RowKit
set_option linter.unusedVariables false
set_option linter.unusedSimpArgs false
def orI (x y : Int) : Int := if x = 0 then y else x
set_option maxRecDepth 100000 in
set_option maxHeartbeats 4000000 in
theorem or_any (b o kc : Nat) (x y : Int) (w : World) (hb : b < w.heap.size) (c0 : w.cell? ⟨b, o, none⟩ = some (.int .i64 x)) (c1 : w.cell? ⟨b, o + 1, none⟩ = some (.int .i64 y)) :
    Calls Tryz.prog 72 #[.slice (some ⟨b, o, none⟩) 2 kc] w fun e w' => e = .returned (.int .i64 (orI x y)) ∧ Below w.heap.size w w' := by
  unfold orI
  by_cases hx : x = 0
  · rw [if_pos hx]
    subst hx
    by_cases hy : y = 0
    · subst hy
      go_enter Tryz.func72, Tryz.ntmps72
      go_wp2
      refine wp_loop_rounds 3 ?_
      iterate 3 (try rw [rounds_succ]; try go_wp2)
      go_ret
      exact ⟨rfl, Below.refl _ _⟩
    · have q1 : (y == 0) = false := by simpa using hy
      have q2 : (y = 0) = False := eq_false hy
      go_enter Tryz.func72, Tryz.ntmps72
      go_wp2
      refine wp_loop_rounds 3 ?_
      iterate 3 (try rw [rounds_succ]; try go_wp2)
      go_ret
      exact ⟨rfl, Below.refl _ _⟩
  · rw [if_neg hx]
    have q1 : (x == 0) = false := by simpa using hx
    have q2 : (x = 0) = False := eq_false hx
    go_enter Tryz.func72, Tryz.ntmps72
    go_wp2
    refine wp_loop_rounds 3 ?_
    iterate 3 (try rw [rounds_succ]; try go_wp2)
    go_ret
    exact ⟨rfl, Below.refl _ _⟩
theorem icl_len (x : Int) : (icl x).length = 1 := rfl
theorem or_rows (a : Option Addr) (kc : Nat) (x y : Int) (w : World) (h : RowsAt icl 1 w a [x, y]) :
    Calls Tryz.prog 72 #[.slice a 2 kc] w fun e w' => e = .returned (.int .i64 (orI x y)) ∧ Below w.heap.size w w' := by
  obtain ⟨b, o, rfl, hb, hc⟩ := h (Nat.succ_pos _)
  exact or_any b o kc x y w hb (hc 0 x rfl 0 (by decide)) (hc 1 y rfl 0 (by decide))
structure Cn where
  nm : ByteArray
  pr : Int
  us : Int
def ccells (c : Cn) : List Value := [.string c.nm, .int .i64 c.pr, .int .i64 c.us]
theorem ccells_len (c : Cn) : (ccells c).length = 3 := rfl
theorem ccells_one (c : Cn) : ∀ u ∈ ccells c, u.oneCell' = true := by
  intro u hu
  simp only [ccells, List.mem_cons, List.not_mem_nil, or_false] at hu
  rcases hu with rfl | rfl | rfl <;> rfl
def cfC (x c : Cn) : Int := orI (cmpI x.pr c.pr) (cmpI x.us c.us)
def pickC (c x : Cn) : Cn := if cfC x c < 0 then x else c
set_option maxRecDepth 100000 in
set_option maxHeartbeats 4000000 in
theorem chcmp_any (x c : Cn) (w : World) :
    Calls Tryz.prog 71 #[.agg #[.string x.nm, .int .i64 x.pr, .int .i64 x.us], .agg #[.string c.nm, .int .i64 c.pr, .int .i64 c.us]] w fun e w' => e = .returned (.int .i64 (cfC x c)) ∧ Below w.heap.size w w' := by
  obtain ⟨W1, hW1⟩ : ∃ W, W = w.alloc (.cells #[.string x.nm, .int .i64 x.pr, .int .i64 x.us] 101) := ⟨_, rfl⟩
  have hb1 : Below w.heap.size w W1 := by rw [hW1]; exact (Below.refl _ _).alloc (Nat.le_refl _) _
  have hX : Blk W1 w.heap.size 101 (ccells x) := by rw [hW1]; exact Blk.new w _ (ccells x)
  have hs1 : W1.heap.size = w.heap.size + 1 := by rw [hW1]; exact World.size_alloc _ _
  obtain ⟨W2, hW2⟩ : ∃ W, W = W1.alloc (.cells #[.string c.nm, .int .i64 c.pr, .int .i64 c.us] 101) := ⟨_, rfl⟩
  have hb2 : Below W1.heap.size W1 W2 := by rw [hW2]; exact (Below.refl _ _).alloc (Nat.le_refl _) _
  have hX2 := hX.below hb2
  have hY : Blk W2 (w.heap.size + 1) 101 (ccells c) := by rw [hW2, ← hs1]; exact Blk.new W1 _ (ccells c)
  have HB := Lib.hid (hb1.trans (hb2.mono hb1.size))
  have x1 := hX2.cell 1
  have x2 := hX2.cell 2
  have y1 := hY.cell 1
  have y2 := hY.cell 2
  have xl := hX2.lt
  have yl := hY.lt
  dsimp only [ccells, List.getElem?_cons_zero, List.getElem?_cons_succ] at x1 x2 y1 y2
  unfold cfC
  clear hX hX2 hY hb1 hb2 hs1
  go_enter Tryz.func71, Tryz.ntmps71
  go_upto_region 1 with (fail)
  (try rw [← hW1])
  (try rw [← hW2])
  clear hW1 hW2
  have hcH := held_cell
  refine region_rel (by kernel_rfl) (by kernel_rfl) ?_
  repeat
    ((with_reducible refine relStep (fun K hK => ?_))
     (have HK := Lib.hid hK)
     clear hK
     (apply relInl
      · intro r n hf
        have Hf := Lib.hid hf
        clear hf
        (first
          | (fail)
          | (unfold relAt
             go_simp
             (first | (refine relUpon_val ?_ (Below.refl _ _); exact rfl) | exact rfl | (refine relUpon_enter ?_; ((with_reducible refine (compare_any _ _ _).mono ?_); rintro e w9 ⟨rfl, rfl⟩; exact ⟨⟨_, rfl, rfl⟩, Below.refl _ _⟩)))))
      (simp only [Act.put, List.setIfInBounds_toArray, List.set_cons_zero, List.set_cons_succ])
      (with_reducible refine HK.out _ _ ?_)
      clear HK K))
  obtain ⟨u, hu⟩ : ∃ u, cmpI x.pr c.pr = u := ⟨_, rfl⟩
  obtain ⟨v, hv⟩ : ∃ u, cmpI x.us c.us = u := ⟨_, rfl⟩
  rw [hu, hv]
  have HNw := Lib.hid (fun (V : World) => show RowsAt icl 1 (V.alloc (.cells #[.int .i64 u, .int .i64 v] 3)) (some ⟨V.heap.size, 0, none⟩) [u, v] from RowsAt.new icl_len V [u, v] 3)
  (with_reducible refine relStep (fun K hK => ?_))
  (have HK := Lib.hid hK)
  clear hK
  refine relInr (IsL icl 1 [u, v]) (IsL.stays _) (fun r n hf => ?_) ?_
  · have Hf := Lib.hid hf
    clear hf HK K
    unfold relAt
    (skip)
    go_simp
    ((refine relUpon_val ?_ ?_; exact ⟨_, _, rfl, (fun e => by cases e), HNw.out n.w⟩; exact (Below.refl _ _).alloc (Nat.le_refl _) _))
  (simp only [Act.put, List.setIfInBounds_toArray, List.set_cons_zero, List.set_cons_succ])
  (with_reducible refine HK.out _ _ ?_)
  clear HK K
  ((with_reducible refine relStep (fun K hK => ?_))
   (have HK := Lib.hid hK)
   clear hK
   (apply relInl
    · intro r n hf
      have Hf := Lib.hid hf
      clear hf
      ((obtain ⟨a1, k9, e1, _, g9⟩ := given_at Hf.out 0 rfl (by dsimp only; decide +kernel); dsimp only [List.length_cons, List.length_nil] at e1; unfold relAt; go_simp; refine relUpon_enter ?_; go_at_call 72; (try rw [e1]); (with_reducible refine (or_rows a1 k9 u v _ g9).mono ?_); rintro e w9 ⟨rfl, hb⟩; exact ⟨⟨_, rfl, rfl⟩, hb⟩)))
   (simp only [Act.put, List.setIfInBounds_toArray, List.set_cons_zero, List.set_cons_succ])
   (with_reducible refine HK.out _ _ ?_)
   clear HK K)
  repeat
    ((with_reducible refine relStep (fun K hK => ?_))
     (have HK := Lib.hid hK)
     clear hK
     (apply relInl
      · intro r n hf
        have Hf := Lib.hid hf
        clear hf
        (first
          | (fail)
          | (unfold relAt
             go_simp
             (first | (refine relUpon_val ?_ (Below.refl _ _); exact rfl) | exact rfl | (refine relUpon_enter ?_; fail))))
      (simp only [Act.put, List.setIfInBounds_toArray, List.set_cons_zero, List.set_cons_succ])
      (with_reducible refine HK.out _ _ ?_)
      clear HK K))
  refine relNil ?_
  intro r9 n9 hx9
  clear hcH
  (try simp only [List.nil_append, List.cons_append, List.mem_cons, List.not_mem_nil, or_false, forall_eq_or_imp, forall_eq, false_implies, implies_true] at hx9)
  obtain ⟨w9, hb9⟩ := n9
  (try dsimp only)
  obtain ⟨hc9, hf9⟩ := bcell hb9
  have hz9 := hb9.size
  (try simp at hz9)
  go_wp2
  go_ret
  exact ⟨rfl, HB.out.trans (hb9.mono HB.out.size)⟩
end Go.Proofs.YtdfadbpepmkicaaGreat
namespace Go.Proofs.YtdfadbpepmkicaaGreat
open Go.RowKit
set_option linter.unusedVariables false
set_option linter.unusedSimpArgs false
def minC (c : Cn) (l : List Cn) : Cn := l.foldl pickC c
theorem minC_at {l : List Cn} {k : Nat} {x : Cn} (h : l[k]? = some x) (c : Cn) : minC c (l.drop k) = minC (pickC c x) (l.drop (k + 1)) := by
  obtain ⟨h1, h2⟩ := List.getElem?_eq_some_iff.1 h
  rw [List.drop_eq_getElem_cons h1, h2]
  rfl
abbrev CnL := RowsAt ccells 3
set_option maxRecDepth 100000 in
set_option maxHeartbeats 8000000 in
theorem mincn_any (a : Option Addr) (ka : Nat) (c0 : Cn) (l : List Cn) (w : World) (hF : CnL w a (c0 :: l)) (hl : l.length ≤ 1000) :
    Calls Tryz.prog 70 #[.slice a (l.length + 1) ka, .func (.func 71) #[] #[]] w fun e w' => e = .returned (.agg #[.string (minC c0 l).nm, .int .i64 (minC c0 l).pr, .int .i64 (minC c0 l).us]) ∧ Below w.heap.size w w' := by
  obtain ⟨n, hn⟩ : ∃ n, l.length + 1 = n := ⟨_, rfl⟩
  obtain ⟨D, hD⟩ : ∃ D, D = c0 :: l := ⟨_, rfl⟩
  have HDl := Lib.hid (show D.length = n by rw [hD]; exact hn)
  obtain ⟨R, hR⟩ : ∃ R, minC c0 l = R := ⟨_, rfl⟩
  have HR := Lib.hid (show minC c0 (D.drop 1) = R by rw [hD]; exact hR)
  have HD0 := Lib.hid (show D[0]? = some c0 by rw [hD]; rfl)
  have hn1 : 1 ≤ n := by omega
  have hn2 : n ≤ 1001 := by omega
  rw [← hD] at hF
  rw [hn, hR]
  obtain ⟨b, o, rfl, hb, hc⟩ := hF (by rw [HDl.out]; omega)
  have HRg := Lib.hid (fun (k : Nat) (x : Cn) (h : D[k]? = some x) => show w.rangeAt b (o + k * 3) [.string x.nm, .int .i64 x.pr, .int .i64 x.us] from fun j v hj => by
    have hj3 : j < 3 := (List.getElem?_eq_some_iff.1 hj).1
    rw [hc k x h j hj3]
    exact hj)
  obtain ⟨W1, hW1⟩ : ∃ W, W = w.alloc (.cells #[.string ⟨#[]⟩, .int .i64 0, .int .i64 0] 101) := ⟨_, rfl⟩
  have hb1 : Below w.heap.size w W1 := by rw [hW1]; exact (Below.refl _ _).alloc (Nat.le_refl _) _
  have hX : Blk W1 w.heap.size 101 [.string ⟨#[]⟩, .int .i64 0, .int .i64 0] := by rw [hW1]; exact Blk.new w _ _
  have hs1 : W1.heap.size = w.heap.size + 1 := by rw [hW1]; exact World.size_alloc _ _
  obtain ⟨W2, hW2⟩ : ∃ W, W = W1.alloc (.cells #[.string c0.nm, .int .i64 c0.pr, .int .i64 c0.us] 101) := ⟨_, rfl⟩
  have hb2 : Below W1.heap.size W1 W2 := by rw [hW2]; exact (Below.refl _ _).alloc (Nat.le_refl _) _
  have HX2 := Lib.hid (hX.below hb2)
  have HY2 := Lib.hid (show Blk W2 (w.heap.size + 1) 101 (ccells c0) by rw [hW2, ← hs1]; exact Blk.new W1 _ (ccells c0))
  have HB2 := Lib.hid (hb1.trans (hb2.mono hb1.size))
  have HR1 := Lib.hid (rangeAt_mono (HRg.out 0 c0 HD0.out) hb hb1)
  rw [Nat.zero_mul, Nat.add_zero] at HR1
  have hw1b : b < W1.heap.size := Nat.lt_of_lt_of_le hb hb1.size
  clear hF hc hn hD hR hX hb1 hb2
  go_enter Tryz.func70, Tryz.ntmps70
  go_upto_region 1 with (fail)
  rw [← hW1]
  clear hW1
  go_upto_region 4 with (first
    | ((with_reducible refine at_load (ty := 101) ?_); refine load_cells rfl 101 (.tmp 12) rfl b o rfl [.string c0.nm, .int .i64 c0.pr, .int .i64 c0.us] _ Tryz.underlying101 rfl (by kernel_rfl) HR1.out ?_)
    | ((with_reducible refine at_store (ty := 101) ?_); refine store_new rfl 101 (.tmp 5) (.tmp 13) rfl _ _ (by first | rfl | (show _ = Value.pointer (some ⟨W1.heap.size, 0, none⟩); rw [hs1]; rfl)) rfl (by kernel_rfl) rfl (by rfl) rfl ?_))
  rw [← hW2]
  (try rw [hs1])
  clear hW2 hs1 HR1 hw1b
  go_wp2
  go_loopw [6] (fun vi wr => ∃ (k : Nat) (c : Cn), 1 ≤ k ∧ k ≤ n ∧ vi = .int .i64 k ∧ minC c (D.drop k) = R ∧ Blk wr w.heap.size 101 [.string ⟨#[]⟩, .int .i64 0, .int .i64 0] ∧ Blk wr (w.heap.size + 1) 101 (ccells c) ∧ Below w.heap.size w wr) (fun vi _ => n - (intOf vi).toNat)
  case atStart => exact ⟨1, c0, Nat.le_refl _, hn1, rfl, HR.out, HX2.out, HY2.out, HB2.out⟩
  case round =>
    clear HX2 HY2 HB2 HR
    obtain ⟨k, c, hk1, hk, rfl, hE, hX, hY, hB⟩ := hrel
    have HE := Lib.hid hE
    have HX := Lib.hid hX
    have HY := Lib.hid hY
    have HB := Lib.hid hB
    have hbz := hB.size
    have hyl := hY.lt
    clear hE hX hY hB
    by_cases hlt : k < n
    · obtain ⟨x, hx⟩ := mem_at (l := D) (k := k) (by rw [HDl.out]; exact hlt)
      have HRx := Lib.hid (rangeAt_mono (HRg.out k x hx) hb HB.out)
      have HRc := Lib.hid (show wr.rangeAt (w.heap.size + 1) 0 [.string c.nm, .int .i64 c.pr, .int .i64 c.us] from fun j v hj => by rw [Nat.zero_add, HY.out.cell]; exact hj)
      have hnx := (minC_at hx c).symm.trans HE.out
      have hbr : b < wr.heap.size := Nat.lt_of_lt_of_le hb hbz
      obtain ⟨r, hr⟩ : ∃ r, cfC x c = r := ⟨_, rfl⟩
      have HC := Lib.hid (fun V => chcmp_any x c V)
      rw [hr] at HC
      have HNx := Lib.hid hnx
      have HPk := Lib.hid (show pickC c x = if r < 0 then x else c by rw [← hr]; rfl)
      clear hx hnx hr
      obtain ⟨V, hVw⟩ : ∃ V, V = wr := ⟨_, rfl⟩
      subst hVw
      go_wp2
      by_cases hr0 : r < 0
      · have hd0 : decide (r < 0) = true := decide_eq_true hr0
        have hcH := held_cell
        refine region_rel (by kernel_rfl) (by kernel_rfl) ?_
        repeat
          ((with_reducible refine relStep (fun K hK => ?_))
           (have HK := Lib.hid hK)
           clear hK
           (apply relInl
            · intro r n hf
              have Hf := Lib.hid hf
              clear hf
              (first
                | (((with_reducible refine at_rel (ty := 101) ?_); first | refine rel_load rfl b (o + k * 3) rfl [.string x.nm, .int .i64 x.pr, .int .i64 x.us] _ Tryz.underlying101 rfl (by kernel_rfl) (rangeAt_mono HRx.out hbr n.below) rfl | refine rel_load rfl (w.heap.size + 1) 0 rfl [.string c.nm, .int .i64 c.pr, .int .i64 c.us] _ Tryz.underlying101 rfl (by kernel_rfl) (rangeAt_mono HRc.out hyl n.below) rfl))
                | (unfold relAt
                   go_simp
                   (first | (refine relUpon_val ?_ (Below.refl _ _); exact rfl) | exact rfl | (refine relUpon_enter ?_; (go_at_call 71; (with_reducible refine (HC.out _).mono ?_); rintro e w9 ⟨rfl, hb⟩; exact ⟨⟨_, rfl, rfl⟩, hb⟩)))))
            (simp only [Act.put, List.setIfInBounds_toArray, List.set_cons_zero, List.set_cons_succ])
            (with_reducible refine HK.out _ _ ?_)
            clear HK K))
        refine relNil ?_
        intro r9 n9 hx9
        clear hcH
        (try simp only [List.nil_append, List.cons_append, List.mem_cons, List.not_mem_nil, or_false, forall_eq_or_imp, forall_eq, false_implies, implies_true] at hx9)
        obtain ⟨w9, hb9⟩ := n9
        (try dsimp only)
        obtain ⟨hc9, hf9⟩ := bcell hb9
        have hz9 := hb9.size
        (try simp at hz9)
        have HX9 := Lib.hid (HX.out.below hb9)
        have HY9 := Lib.hid (HY.out.below hb9)
        have HB9 := Lib.hid (HB.out.trans (hb9.mono hbz))
        have HR9 := Lib.hid (rangeAt_mono HRx.out hbr hb9)
        clear hb9 hc9 hf9 hz9
        go_wp2_with (first
          | ((with_reducible refine at_load (ty := 101) ?_); refine load_cells rfl 101 (.tmp 30) rfl b (o + k * 3) rfl [.string x.nm, .int .i64 x.pr, .int .i64 x.us] _ Tryz.underlying101 rfl (by kernel_rfl) HR9.out ?_)
          | ((with_reducible refine at_store (ty := 101) ?_); refine store_blk rfl 101 (.tmp 5) (.tmp 31) rfl (w.heap.size + 1) rfl [.string x.nm, .int .i64 x.pr, .int .i64 x.us] rfl 101 (ccells c) HY9.out (by kernel_rfl) rfl (ccells_one x) ?_; intro w7 hb7 ho7; have HY7 := Lib.hid hb7; have HO7 := Lib.hid ho7; clear hb7 ho7))
        go_roundw
        case rel => exact ⟨k + 1, x, by omega, by omega, by go_num, by rw [← HNx.out, HPk.out, if_pos hr0], HX9.out.only HO7.out (by simp), HY7.out, HO7.out.below HB9.out HB9.out.size (fun q hq => by rw [List.mem_singleton] at hq; omega)⟩
        case measure => simp [intOf]; omega
      · have hd0 : decide (r < 0) = false := decide_eq_false hr0
        have hcH := held_cell
        refine region_rel (by kernel_rfl) (by kernel_rfl) ?_
        repeat
          ((with_reducible refine relStep (fun K hK => ?_))
           (have HK := Lib.hid hK)
           clear hK
           (apply relInl
            · intro r n hf
              have Hf := Lib.hid hf
              clear hf
              (first
                | (((with_reducible refine at_rel (ty := 101) ?_); first | refine rel_load rfl b (o + k * 3) rfl [.string x.nm, .int .i64 x.pr, .int .i64 x.us] _ Tryz.underlying101 rfl (by kernel_rfl) (rangeAt_mono HRx.out hbr n.below) rfl | refine rel_load rfl (w.heap.size + 1) 0 rfl [.string c.nm, .int .i64 c.pr, .int .i64 c.us] _ Tryz.underlying101 rfl (by kernel_rfl) (rangeAt_mono HRc.out hyl n.below) rfl))
                | (unfold relAt
                   go_simp
                   (first | (refine relUpon_val ?_ (Below.refl _ _); exact rfl) | exact rfl | (refine relUpon_enter ?_; (go_at_call 71; (with_reducible refine (HC.out _).mono ?_); rintro e w9 ⟨rfl, hb⟩; exact ⟨⟨_, rfl, rfl⟩, hb⟩)))))
            (simp only [Act.put, List.setIfInBounds_toArray, List.set_cons_zero, List.set_cons_succ])
            (with_reducible refine HK.out _ _ ?_)
            clear HK K))
        refine relNil ?_
        intro r9 n9 hx9
        clear hcH
        (try simp only [List.nil_append, List.cons_append, List.mem_cons, List.not_mem_nil, or_false, forall_eq_or_imp, forall_eq, false_implies, implies_true] at hx9)
        obtain ⟨w9, hb9⟩ := n9
        (try dsimp only)
        obtain ⟨hc9, hf9⟩ := bcell hb9
        have hz9 := hb9.size
        (try simp at hz9)
        have HX9 := Lib.hid (HX.out.below hb9)
        have HY9 := Lib.hid (HY.out.below hb9)
        have HB9 := Lib.hid (HB.out.trans (hb9.mono hbz))
        clear hb9 hc9 hf9 hz9
        go_wp2
        go_roundw
        case rel => exact ⟨k + 1, c, by omega, by omega, by go_num, by rw [← HNx.out, HPk.out, if_neg hr0], HX9.out, HY9.out, HB9.out⟩
        case measure => simp [intOf]; omega
    · obtain rfl : k = n := by omega
      have hc : c = R := by
        have h9 := HE.out
        rw [List.drop_of_length_le (by rw [HDl.out]; exact Nat.le_refl _)] at h9
        exact h9
      subst hc
      have HRc := Lib.hid (show wr.rangeAt (w.heap.size + 1) 0 [.string c.nm, .int .i64 c.pr, .int .i64 c.us] from fun j v hj => by rw [Nat.zero_add, HY.out.cell]; exact hj)
      go_wp2_with (first
        | ((with_reducible refine at_load (ty := 101) ?_); refine load_cells rfl 101 (.tmp 5) rfl (w.heap.size + 1) 0 rfl [.string c.nm, .int .i64 c.pr, .int .i64 c.us] _ Tryz.underlying101 rfl (by kernel_rfl) HRc.out ?_)
        | ((with_reducible refine at_store (ty := 101) ?_); refine store_blk rfl 101 (.tmp 4) (.tmp 32) rfl w.heap.size rfl [.string c.nm, .int .i64 c.pr, .int .i64 c.us] rfl 101 [.string ⟨#[]⟩, .int .i64 0, .int .i64 0] HX.out (by kernel_rfl) rfl (ccells_one c) ?_; intro w7 hb7 ho7; have HY7 := Lib.hid hb7; have HO7 := Lib.hid ho7; clear hb7 ho7))
      exact bodyPost_ret (results_cell_row Tryz.results70 _ w7 w.heap.size 101 #[.string c.nm, .int .i64 c.pr, .int .i64 c.us] (0, 0) _ rfl HY7.out Tryz.underlying101 rfl (by kernel_rfl)) rfl ⟨rfl, HO7.out.below HB.out hbz (fun q hq => by rw [List.mem_singleton] at hq; omega)⟩
end Go.Proofs.YtdfadbpepmkicaaGreat
namespace Go.Proofs.YtdfadbpepmkicaaGreat
open Go.RowKit
set_option linter.unusedVariables false
set_option linter.unusedSimpArgs false
def setL : List Value → Nat → List Value → List Value
  | xs, _, [] => xs
  | xs, o, v :: vs => setL (xs.set o v) (o + 1) vs
theorem setL_take : ∀ (vs xs : List Value) (o m : Nat), m ≤ o → (setL xs o vs).take m = xs.take m
  | [], xs, o, m, h => rfl
  | v :: vs, xs, o, m, h => by
    unfold setL
    rw [setL_take vs _ _ m (by omega), List.take_set, List.set_eq_of_length_le (by rw [List.length_take]; omega)]
theorem setL_app : ∀ (vs a xs : List Value) (o : Nat), setL (a ++ xs) (a.length + o) vs = a ++ setL xs o vs
  | [], a, xs, o => rfl
  | v :: vs, a, xs, o => by
    unfold setL
    rw [List.set_append_right _ _ (Nat.le_add_right _ _), Nat.add_sub_cancel_left, Nat.add_assoc, setL_app vs a]
theorem setL_head : ∀ (vs a xs : List Value), vs.length = a.length → setL (a ++ xs) 0 vs = vs ++ xs
  | [], [], xs, h => rfl
  | v :: vs, b :: a, xs, h => by
    unfold setL
    rw [List.cons_append, List.set_cons_zero]
    have e := setL_app vs [v] (a ++ xs) 0
    simp only [List.length_singleton, List.cons_append, List.nil_append, Nat.zero_add, Nat.add_zero] at e
    rw [Nat.zero_add, e, setL_head vs a xs (by simpa using h)]
    rfl
theorem flat_put {α : Type} {enc : α → List Value} {K : Nat} (hk : ∀ x, (enc x).length = K) : ∀ (l : List α) (j : Nat) (y : α), j < l.length → setL (l.flatMap enc) (j * K) (enc y) = (l.set j y).flatMap enc
  | [], j, y, h => absurd h (Nat.not_lt_zero _)
  | z :: l, 0, y, h => by
    rw [Nat.zero_mul, List.set_cons_zero, List.flatMap_cons, List.flatMap_cons]
    exact setL_head _ _ _ (by rw [hk, hk])
  | z :: l, j + 1, y, h => by
    rw [List.set_cons_succ, List.flatMap_cons, List.flatMap_cons, show (j + 1) * K = (enc z).length + j * K by rw [hk, Nat.succ_mul, Nat.add_comm], setL_app, flat_put hk l j y (by simpa using h)]
section
variable {w : World} {base size n cap g : Nat} {e : TypeId} {xs : List Value}
theorem own_cells : ∀ (vs : List Value) (o : Nat) {w : World} {xs : List Value}, w.ownsRow base e size (.slice (some ⟨g, 0, none⟩) n cap) n xs → (w.setCells g o vs).ownsRow base e size (.slice (some ⟨g, 0, none⟩) n cap) n (setL xs o vs) ∧ w.grownBy (w.setCells g o vs) (some g)
  | [], o, w, xs, h => ⟨h, World.grownBy.refl _ _⟩
  | v :: vs, o, w, xs, h => by
    have h1 := World.ownsRow.stored h o v
    have h2 := own_cells vs (o + 1) h1.1
    exact ⟨h2.1, h1.2.trans h2.2⟩
theorem own_cut (h : w.ownsRow base e size (.slice (some ⟨g, 0, none⟩) n cap) n xs) {m : Nat} (hm : m ≤ n) : w.ownsRow base e size (.slice (some ⟨g, 0, none⟩) m cap) m (xs.take (m * size)) := by
  rcases h.2 with ⟨h', _⟩ | ⟨g', cap', cur, h', hb, hg, hnc, hcm, hcs, htake⟩
  · simp at h'
  · simp only [Value.slice.injEq, Option.some.injEq, Addr.mk.injEq, and_true, true_and] at h'
    obtain ⟨rfl, rfl⟩ := h'
    have hle : m * size ≤ n * size := Nat.mul_le_mul_right _ hm
    refine ⟨by rw [List.length_take, h.1]; exact Nat.min_eq_left hle, .inr ⟨g, cap, cur, rfl, hb, hg, Nat.le_trans hm hnc, hcm, hcs, ?_⟩⟩
    rw [← htake, List.take_take, Nat.min_eq_left hle]
theorem own_there (h : w.ownsRow base e size (.slice (some ⟨g, 0, none⟩) n cap) n xs) {o k : Nat} (hk : o + k ≤ n * size) : w.there g o k := fun j hj => by
  refine ⟨?_, h.frozenAt _⟩
  rw [h.cellAt (o + j) (by omega), List.getElem?_eq_getElem (by rw [h.1]; omega)]
  rfl
theorem own_range {α : Type} {enc : α → List Value} (hk : ∀ x, (enc x).length = size) {l : List α} (h : w.ownsRow base e size (.slice (some ⟨g, 0, none⟩) n cap) n (l.flatMap enc)) {j : Nat} {x : α} (hx : l[j]? = some x) : w.rangeAt g (j * size) (enc x) := fun r v hr => by
  have hr2 : r < size := by rw [← hk x]; exact (List.getElem?_eq_some_iff.1 hr).1
  have hj : j < l.length := (List.getElem?_eq_some_iff.1 hx).1
  have hl : n * size = l.length * size := by rw [← h.1, rows_length enc size hk]
  rw [h.cellAt _ (by rw [hl]; have : (j + 1) * size ≤ l.length * size := Nat.mul_le_mul_right _ hj; rw [Nat.succ_mul] at this; omega), rows_get enc size hk l j r x hx hr2]
  exact hr
end
theorem store_mid {P : Program} {ops : Array Oper} {Q : Exit → Act → World → Prop} {a : Act} {w : World} {rest : List Oper} {o : Oper} (hw : Region.wanted o (yielded ops a.tmps) = true) (ty : TypeId) (x y : Operand) (ho : o.op = .store ty x y)
    (b off : Nat) (hx : a.eval x = .pointer (some ⟨b, off, none⟩)) (cs : List Value) (hy : a.eval y = .agg cs.toArray) (ht : w.there b off cs.length) (hi : (P.info? ty).map (·.size) = some cs.length) (h1 : ∀ u ∈ cs, u.oneCell' = true)
    (h : wpList P ops Q rest (a.put o.dst undef) (w.setCells b off cs)) : wpList P ops Q (o :: rest) a w :=
  BigFrame.wpList_want hw fun K hK => wp_store_mid ty x y ho b off cs.toArray hx hy (by simpa using ht) (by simpa using hi) (Array.all_eq_true_iff_forall_mem.2 fun u hu => h1 u (by simpa using hu)) (hK _ _ h)
theorem flat_take {α : Type} {enc : α → List Value} {K : Nat} (hk : ∀ x, (enc x).length = K) : ∀ (l : List α) (m : Nat), (l.flatMap enc).take (m * K) = (l.take m).flatMap enc
  | [], m => by simp
  | z :: l, 0 => by simp
  | z :: l, m + 1 => by
    rw [List.take_succ_cons, List.flatMap_cons, List.flatMap_cons, show (m + 1) * K = (enc z).length + m * K by rw [hk, Nat.succ_mul, Nat.add_comm], List.take_length_add_append, flat_take hk l m]
theorem run_clear_rows {P : Program} (w : World) (t e : TypeId) (z : Value) (k : Nat) (ht : P.underlying t = some (.slice e)) (hv : ∀ w, (zeroValue e).run P w = .ok z w) (hz : z.cells.size = k) (hk : 0 < k) (h1 : ∀ u ∈ z.cells.toList, u.oneCell' = true) (b o n c : Nat) (hn : 0 < n) (hth : w.there b o (n * k)) :
    ∃ vs : List Value, ∀ ty, (Builtin.clear_ #[t] ty #[.slice (some ⟨b, o, none⟩) n c]).run P w = .ok (.tuple #[]) (w.setCells b o vs) := by
  obtain ⟨m, rfl⟩ : ∃ m, n = m + 1 := ⟨n - 1, by omega⟩
  refine ⟨(Builtin.zeroCells z.cells (m + 1)).toList, fun ty => ?_⟩
  have hl : (Builtin.zeroCells z.cells (m + 1)).toList.length = (m + 1) * k := by simp [Builtin.zeroCells, hz]
  have hst := run_storeCells_cells (P := P) b o (Builtin.zeroCells z.cells (m + 1)).toList 0 w (fun j hj => by rw [Nat.add_zero] at *; exact (hth j (by rw [hl] at hj; exact hj)).1) (fun j hj => by rw [Nat.add_zero] at *; exact (hth j (by rw [hl] at hj; exact hj)).2) (by
    intro v hv'
    simp only [Builtin.zeroCells, Array.toList_map, List.mem_map] at hv'
    obtain ⟨i, _, rfl⟩ := hv'
    have hlt : i % z.cells.size < z.cells.size := Nat.mod_lt _ (by omega)
    rw [getElem!_pos z.cells _ hlt]
    exact h1 _ (by simp))
  simp only [Nat.add_zero] at hst
  simp [Builtin.clear_, run_underlying ht, hv, hst]
end Go.Proofs.YtdfadbpepmkicaaGreat
namespace Go.Proofs.YtdfadbpepmkicaaGreat
open Go.RowKit
set_option linter.unusedVariables false
set_option linter.unusedSimpArgs false
structure PredB (g fn : Nat) (caps : Array Value) (q : Bd → Bool) (W : World) : Prop where
  ent : ∀ (args : Array Value) (V : World), (callFunc fn args).run Tryz.prog V = .ok (.enter fn args) V
  pr : ∀ (x : Bd) (V : World), Only [g] W V → Calls Tryz.prog fn (#[.agg (brow x).toArray] ++ caps) V fun e w' => e = .returned (.bool (q x)) ∧ Below V.heap.size V w'
def RowB (B g n cap : Nat) (l : List Bd) (V : World) : Prop := V.ownsRow B 42 21 (.slice (some ⟨g, 0, none⟩) n cap) n (l.flatMap brow)
theorem RowB.len {B g n cap : Nat} {l : List Bd} {V : World} (h : RowB B g n cap l V) : l.length = n := by
  have h1 := h.1
  rw [rows_length brow 21 brow_len] at h1
  omega
theorem RowB.below {B g n cap : Nat} {l : List Bd} {V V' : World} (h : RowB B g n cap l V) (hb : Below V.heap.size V V') : RowB B g n cap l V' := own_kept h hb
theorem RowB.rng {B g n cap : Nat} {l : List Bd} {V : World} (h : RowB B g n cap l V) {j : Nat} {x : Bd} (hx : l[j]? = some x) : V.rangeAt g (j * 21) (brow x) := own_range brow_len h hx
theorem RowB.cap {B g n cap : Nat} {l : List Bd} {V : World} (h : RowB B g n cap l V) : n ≤ cap := by
  rcases h.2 with ⟨h', _⟩ | ⟨g', cap', cur, h', _, _, hnc, _⟩
  · simp at h'
  · simp only [Value.slice.injEq] at h'
    omega
def firstB (q : Bd → Bool) (l : List Bd) (r : Int) : Prop := (r = -1 ∧ ∀ x ∈ l, q x = false) ∨ ∃ (k : Nat) (x : Bd), r = (k : Int) ∧ l[k]? = some x ∧ q x = true ∧ ∀ y ∈ l.take k, q y = false
set_option maxRecDepth 100000 in
set_option maxHeartbeats 4000000 in
theorem idxf_any (B g n cap fn : Nat) (caps : Array Value) (q : Bd → Bool) (l : List Bd) (w : World) (hR : RowB B g n cap l w) (hP : PredB g fn caps q w) (hn : n ≤ 1000000) :
    Calls Tryz.prog 98 #[.slice (some ⟨g, 0, none⟩) n cap, .func (.func fn) #[] caps] w fun e w' => (∃ r, e = .returned (.int .i64 r) ∧ firstB q l r) ∧ Below w.heap.size w w' := by
  have HR := Lib.hid hR
  have HP := Lib.hid hP.pr
  have hent := hP.ent
  have Hl := Lib.hid hR.len
  clear hR hP
  go_enter Tryz.func98, Tryz.ntmps98
  go_wp2
  go_loopw [8] (fun vi wr => ∃ k : Nat, k ≤ n ∧ vi = .int .i64 k ∧ (∀ y ∈ l.take k, q y = false) ∧ Below w.heap.size w wr) (fun vi _ => n - (intOf vi).toNat)
  case atStart => exact ⟨0, Nat.zero_le _, rfl, fun y hy => by simp at hy, Below.refl _ _⟩
  case round =>
    obtain ⟨k, hk, rfl, hQ, hB⟩ := hrel
    have HQ := Lib.hid hQ
    have HB := Lib.hid hB
    have hbz := hB.size
    by_cases hlt : k < n
    · obtain ⟨x, hx⟩ := mem_at (l := l) (k := k) (by rw [Hl.out]; exact hlt)
      have HRg := Lib.hid ((HR.out.below hB).rng hx)
      have HC := Lib.hid (HP.out x wr (Only.of_below hB))
      have HNx := Lib.hid (take_at hx)
      have HX := Lib.hid hx
      obtain ⟨b, hb⟩ : ∃ b, q x = b := ⟨_, rfl⟩
      rw [hb] at HC
      have HBq := Lib.hid hb
      clear hx hQ hB hb
      cases b with
      | true =>
        go_wp2_with (first
          | ((with_reducible refine at_load (ty := 42) ?_); refine load_cells rfl 42 (.tmp 14) rfl g (k * 21) rfl (brow x) _ Tryz.underlying42 rfl (by rw [brow_len]; kernel_rfl) HRg.out ?_)
          | ((with_reducible refine HC.out.mono ?_); rintro e w5 ⟨rfl, hb5⟩; have HB5 := Lib.hid (HB.out.trans (hb5.mono hbz)); clear hb5))
        go_ret
        exact ⟨⟨_, rfl, .inr ⟨k, x, rfl, HX.out, HBq.out, HQ.out⟩⟩, HB5.out⟩
      | false =>
        go_wp2_with (first
          | ((with_reducible refine at_load (ty := 42) ?_); refine load_cells rfl 42 (.tmp 14) rfl g (k * 21) rfl (brow x) _ Tryz.underlying42 rfl (by rw [brow_len]; kernel_rfl) HRg.out ?_)
          | ((with_reducible refine HC.out.mono ?_); rintro e w5 ⟨rfl, hb5⟩; have HB5 := Lib.hid (HB.out.trans (hb5.mono hbz)); clear hb5))
        go_roundw
        case rel => exact ⟨k + 1, by omega, by go_num, fun y hy => by
          rw [HNx.out] at hy
          rcases List.mem_append.1 hy with h | h
          · exact HQ.out y h
          · rw [List.mem_singleton.1 h]; exact HBq.out, HB5.out⟩
        case measure => simp [intOf]; omega
    · obtain rfl : k = n := by omega
      rw [List.take_of_length_le (by rw [Hl.out]; exact Nat.le_refl _)] at hQ
      have HQa := Lib.hid hQ
      clear hQ hB
      go_wp2
      go_ret
      exact ⟨⟨_, rfl, .inl ⟨rfl, HQa.out⟩⟩, HB.out⟩
end Go.Proofs.YtdfadbpepmkicaaGreat
namespace Go.Proofs.YtdfadbpepmkicaaGreat
open Go.RowKit
set_option linter.unusedVariables false
set_option linter.unusedSimpArgs false
theorem zero_bnd (w : World) : (zeroValue 42).run Tryz.prog w = .ok (.agg #[.string ⟨#[]⟩, .int .i64 0, .int .i64 0, .int .i64 0, .int .i64 0, .int .i64 0, .slice none 0 0, .slice none 0 0, .slice none 0 0, .slice none 0 0, .slice none 0 0, .slice none 0 0, .bool false, .slice none 0 0, .int .i64 0, .int .i64 0, .string ⟨#[]⟩, .bool false, .bool false, .bool false, .string ⟨#[]⟩]) w := by kernel_rfl
theorem brow_all (x : Bd) : (brow x).toArray.toList.all (·.oneCell') = true := List.all_eq_true.2 (by simpa using brow_one x)
theorem brow_inf (x : Bd) : (Tryz.prog.info? 42).map (·.size) = some (brow x).length := by rw [brow_len]; kernel_rfl
theorem brow_info (x : Bd) : (Tryz.prog.info? 42).map (·.size) = some (brow x).toArray.size := by rw [List.size_toArray]; exact brow_inf x
theorem brow_size (x : Bd) : (21 : Nat) = (brow x).toArray.size := by rw [List.size_toArray, brow_len]
theorem drop_next {l X : List Bd} {j : Nat} {x : Bd} (hX : X[j]? = some x) (hl : l[j]? = some x) (h : X.drop j = l.drop j) : X.drop (j + 1) = l.drop (j + 1) := by
  have h9 := congrArg List.tail h
  simpa [List.tail_drop] using h9
theorem take_set_next {X : List Bd} {i : Nat} {x : Bd} (h : i < X.length) : (X.set i x).take (i + 1) = X.take i ++ [x] := by
  rw [List.take_add_one, List.getElem?_set_self h, List.take_set, List.set_eq_of_length_le (by rw [List.length_take]; omega)]
  rfl
theorem drop_set_lt {X : List Bd} {i j : Nat} {x : Bd} (h : i < j) : (X.set i x).drop j = X.drop j := by
  rw [List.drop_set]
  rw [if_pos h]
structure DelS (B g n cap : Nat) (q : Bd → Bool) (l : List Bd) (w : World) (i j : Nat) (X : List Bd) (V : World) : Prop where
  row : RowB B g n cap X V
  on : Only [g] w V
  lo : X.take i = (l.take j).filter fun x => !q x
  hi : X.drop j = l.drop j
set_option maxRecDepth 100000 in
set_option maxHeartbeats 8000000 in
theorem delf_any (B g n cap fn : Nat) (caps : Array Value) (q : Bd → Bool) (l : List Bd) (w : World) (hR : RowB B g n cap l w) (hP : PredB g fn caps q w) (hn : n ≤ 1000000) :
    Calls Tryz.prog 64 #[.slice (some ⟨g, 0, none⟩) n cap, .func (.func fn) #[] caps] w fun e w' => (∃ m, m = (l.filter fun x => !q x).length ∧ e = .returned (.slice (some ⟨g, 0, none⟩) m cap) ∧ RowB B g m cap (l.filter fun x => !q x) w') ∧ Only [g] w w' := by
  have HIf := Lib.hid (idxf_any B g n cap fn caps q l w hR hP hn)
  have HR := Lib.hid hR
  have HP := Lib.hid hP.pr
  have hent := hP.ent
  have Hl := Lib.hid hR.len
  have Hcap := Lib.hid hR.cap
  clear hR hP
  go_enter Tryz.func64, Tryz.ntmps64
  go_upto_region 2 with (go_at_call 98; (with_reducible refine HIf.out.mono ?_); rintro e w1 ⟨⟨r, rfl, hr⟩, hb⟩; have HB1 := Lib.hid hb; have Hr := Lib.hid hr; clear hb hr)
  rcases Hr.out with ⟨rfl, hall⟩ | ⟨k, x, rfl, hk, hx, hbefore⟩
  · have hf : (l.filter fun x => !q x) = l := List.filter_eq_self.2 fun x hx => by rw [hall x hx]; rfl
    have Hf := Lib.hid hf
    clear hf hall Hr
    go_wp2
    go_ret
    exact ⟨⟨n, by rw [Hf.out]; exact Hl.out.symm, rfl, by rw [Hf.out]; exact HR.out.below HB1.out⟩, Only.of_below HB1.out⟩
  · have hkn : k < n := by rw [← Hl.out]; exact (List.getElem?_eq_some_iff.1 hk).1
    have q1 : ((k : Int) == -1) = false := by simp
    have q2 : ((k : Int) = -1) = False := by simp
    have HD0 := Lib.hid (show DelS B g n cap q l w k (k + 1) l w1 from ⟨HR.out.below HB1.out, Only.of_below HB1.out, by
      rw [take_at hk, List.filter_append, List.filter_eq_self.2 (fun y hy => by rw [hbefore y hy]; rfl)]
      simp [hx], rfl⟩)
    clear hk hx hbefore Hr HR HB1
    go_wp2
    go_loopw [5, 6] (fun vi vj wr => ∃ (i j : Nat) (X : List Bd), i < j ∧ j ≤ n ∧ vi = .int .i64 i ∧ vj = .int .i64 j ∧ DelS B g n cap q l w i j X wr) (fun _ vj _ => n - (intOf vj).toNat)
    case atStart => exact ⟨k, k + 1, l, Nat.lt_succ_self _, hkn, rfl, by go_num, HD0.out⟩
    case round =>
      clear HD0 q1 q2 hkn
      obtain ⟨i, j, X, hij, hjn, rfl, rfl, hD⟩ := hrel
      have HD := Lib.hid hD
      have hXl : X.length = n := hD.row.len
      have HXl := Lib.hid hXl
      have hbz := hD.on.size
      clear hD
      by_cases hlt : j < n
      · obtain ⟨x, hx⟩ := mem_at (l := X) (k := j) (by rw [hXl]; exact hlt)
        have hxl : l[j]? = some x := by
          have h9 := congrArg (·[0]?) HD.out.hi
          simp only [List.getElem?_drop, Nat.add_zero] at h9
          rw [← h9]
          exact hx
        have HRg := Lib.hid (HD.out.row.rng hx)
        have HX := Lib.hid hx
        have HXL := Lib.hid hxl
        obtain ⟨V, hVw⟩ : ∃ V, V = wr := ⟨_, rfl⟩
        subst hVw
        obtain ⟨Z, hZ⟩ : ∃ Z, V.heap.size = Z := ⟨_, rfl⟩
        obtain ⟨w5, hw5⟩ : ∃ W, W = V.alloc (.cells (brow x).toArray 42) := ⟨_, rfl⟩
        have HZr := Lib.hid (show w5.rangeAt Z 0 (brow x) by rw [hw5, ← hZ]; exact rangeAt_new _ _ _)
        have hb5 : Below V.heap.size V w5 := by rw [hw5]; exact (Below.refl _ _).alloc (Nat.le_refl _) _
        have hz5 : Z < w5.heap.size := by rw [hw5, World.size_alloc, hZ]; omega
        have HR5 := Lib.hid (HD.out.row.below hb5)
        have HO5 := Lib.hid (HD.out.on.step (hb5.mono hbz))
        have HC := Lib.hid (HP.out x w5 HO5.out)
        obtain ⟨b, hb⟩ : ∃ b, q x = b := ⟨_, rfl⟩
        rw [hb] at HC
        have HBq := Lib.hid hb
        clear hx hxl hXl hb5 hb
        go_upto_region 8 with (first
          | ((with_reducible refine at_load (ty := 42) ?_); refine load_cells rfl 42 (.tmp 24) rfl g (j * 21) rfl (brow x) _ Tryz.underlying42 rfl (brow_inf x) HRg.out ?_)
          | ((with_reducible refine at_store (ty := 42) ?_); refine store_new rfl 42 (.tmp 7) (.tmp 25) rfl _ (brow x).toArray (by first | rfl | (show _ = Value.pointer (some ⟨V.heap.size, 0, none⟩); rw [hZ]; rfl)) rfl (brow_info x) (brow_size x) (brow_all x) rfl ?_))
        (try rw [hZ])
        rw [← hw5]
        clear hw5 hZ HRg
        cases b with
        | true =>
          go_wp2_with (first
            | ((with_reducible refine at_load (ty := 42) ?_); refine load_cells rfl 42 (.tmp 7) rfl Z 0 rfl (brow x) _ Tryz.underlying42 rfl (brow_inf x) HZr.out ?_)
            | ((with_reducible refine HC.out.mono ?_); rintro e w6 ⟨rfl, hb6⟩; have HR6 := Lib.hid (HR5.out.below hb6); have HO6 := Lib.hid (HO5.out.step (hb6.mono HO5.out.size)); clear hb6))
          go_roundw
          case rel => exact ⟨i, j + 1, X, by omega, by omega, rfl, by go_num, HR6.out, HO6.out, by rw [take_at HXL.out, List.filter_append, HD.out.lo]; simp [HBq.out], drop_next HX.out HXL.out HD.out.hi⟩
          case measure => simp [intOf]; omega
        | false =>
          go_upto_region 9 with (first
            | ((with_reducible refine at_load (ty := 42) ?_); refine load_cells rfl 42 (.tmp 7) rfl Z 0 rfl (brow x) _ Tryz.underlying42 rfl (brow_inf x) HZr.out ?_)
            | ((with_reducible refine HC.out.mono ?_); rintro e w6 ⟨rfl, hb6⟩; have HR6 := Lib.hid (HR5.out.below hb6); have HO6 := Lib.hid (HO5.out.step (hb6.mono HO5.out.size)); have HZ6 := Lib.hid (rangeAt_mono HZr.out hz5 hb6); clear hb6))
          have HTh := Lib.hid (own_there HR6.out (o := i * 21) (k := 21) (by have : (i + 1) * 21 ≤ n * 21 := Nat.mul_le_mul_right _ (by omega); omega))
          have hin : i < n := by omega
          have HPt := Lib.hid (own_cells (brow x) (i * 21) HR6.out)
          go_wp2_with (first
            | ((with_reducible refine at_load (ty := 42) ?_); refine load_cells rfl 42 (.tmp 7) rfl Z 0 rfl (brow x) _ Tryz.underlying42 rfl (brow_inf x) HZ6.out ?_)
            | ((with_reducible refine at_store (ty := 42) ?_); refine store_mid rfl 42 (.tmp 33) (.tmp 32) rfl g (i * 21) rfl (brow x) rfl (by rw [brow_len]; exact HTh.out) (brow_inf x) (brow_one x) ?_))
          have hrow : RowB B g n cap (X.set i x) (w6.setCells g (i * 21) (brow x)) := by
            have h9 := HPt.out.1
            rw [flat_put brow_len X i x (by rw [HXl.out]; exact hin)] at h9
            exact h9
          have HRow := Lib.hid hrow
          have HOw := Lib.hid (HO6.out.grown HPt.out.2 (fun k e => .inl (by cases e; simp)))
          clear hrow
          go_roundw
          case rel => exact ⟨i + 1, j + 1, X.set i x, by omega, by omega, by go_num, by go_num, HRow.out, HOw.out, by rw [take_set_next (by rw [HXl.out]; exact hin), take_at HXL.out, List.filter_append, HD.out.lo]; simp [HBq.out], by rw [drop_set_lt (by omega : i < j + 1)]; exact drop_next HX.out HXL.out HD.out.hi⟩
          case measure => simp [intOf]; omega
      · obtain rfl : j = n := by omega
        have hlo : X.take i = l.filter fun x => !q x := by rw [HD.out.lo, List.take_of_length_le (by rw [Hl.out]; exact Nat.le_refl _)]
        have hlen : (l.filter fun x => !q x).length = i := by rw [← hlo, List.length_take, hXl]; omega
        have hni : ¬ cap = i := by have := Hcap.out; omega
        have hni2 : (cap = i) = False := eq_false hni
        have hic : i ≤ cap := by have := Hcap.out; omega
        have hjc : j ≤ cap := Hcap.out
        obtain ⟨vs, hvs⟩ := run_clear_rows (P := Tryz.prog) wr 23 42 _ 21 Tryz.underlying23 zero_bnd (by decide) (by decide) (by decide) g (i * 21) (j - i) (cap - i) (by omega) (own_there HD.out.row (by rw [← Nat.add_mul]; exact Nat.mul_le_mul_right _ (by omega)))
        have HCl := Lib.hid (own_cells vs (i * 21) HD.out.row)
        have HLo := Lib.hid hlo
        have HLen := Lib.hid hlen
        have HCl2 := Lib.hid hvs
        have hvs9 : ∀ ty, (Builtin.clear_ #[23] ty #[.slice (some ⟨g, i * 21, none⟩) (j - i) (cap - i)]).run Tryz.prog wr = .ok (.tuple #[]) (wr.setCells g (i * 21) vs) := hvs
        clear hlo hlen hvs
        go_wp2
        have hrow : RowB B g i cap (l.filter fun x => !q x) (wr.setCells g (i * 21) vs) := by
          have h9 := own_cut HCl.out.1 (Nat.le_of_lt hij)
          rw [setL_take _ _ _ _ (Nat.le_refl _), flat_take brow_len, HLo.out] at h9
          exact h9
        have HRow := Lib.hid hrow
        have HOw := Lib.hid (HD.out.on.grown HCl.out.2 (fun k e => .inl (by cases e; simp)))
        clear hrow
        go_ret
        exact ⟨⟨i, HLen.out.symm, rfl, HRow.out⟩, HOw.out⟩
end Go.Proofs.YtdfadbpepmkicaaGreat
namespace Go.Proofs.YtdfadbpepmkicaaGreat
open Go.RowKit
set_option linter.unusedVariables false
set_option linter.unusedSimpArgs false
theorem rows_only {α : Type} {enc : α → List Value} {K B : Nat} {w w' : World} {a : Option Addr} {l : List α} {S : List Nat} (h : RowsAt enc K w a l) (hf : ∀ q o, a = some ⟨q, o, none⟩ → B ≤ q) (ho : Only S w w') (hS : ∀ g ∈ S, g < B) : RowsAt enc K w' a l := fun h0 => by
  obtain ⟨q, o, e, hq, hr⟩ := h h0
  have hge := hf q o e
  refine ⟨q, o, e, Nat.lt_of_lt_of_le hq ho.size, fun i x hx r hr2 => ?_⟩
  rw [World.cell?_of_block (ho.block q hq (fun hm => by have := hS q hm; omega))]
  exact hr i x hx r hr2
theorem own_far {w : World} {B : Nat} {a : Option Addr} {n k K : Nat} {m : Nat} {e : TypeId} {xs : List Value} (h : w.ownsRow B e K (.slice a n k) m xs) : ∀ q o, a = some ⟨q, o, none⟩ → B ≤ q := fun q o e => by
  subst e
  exact (h.lt q rfl).1
theorem own_parts {α : Type} {enc : α → List Value} {K B : Nat} {t : TypeId} {w : World} {a : Option Addr} {k : Nat} {l : List α} (hk : ∀ x, (enc x).length = K) (hK : 0 < K) (h : w.ownsRow B t K (.slice a l.length k) l.length (l.flatMap enc)) : RowsAt enc K w a l ∧ NilOk a l.length k ∧ l.length ≤ k := by
  obtain ⟨a', k', e, h1, h2⟩ := IsL.of_own hk hK h
  injection e with e1 e2 e3
  subst e1 e3
  refine ⟨h2, h1, ?_⟩
  rcases h.2 with ⟨e, h0⟩ | ⟨g, cap, cur, e, _, _, hc, _⟩
  · omega
  · injection e with e1 e2 e3
    omega
end Go.Proofs.YtdfadbpepmkicaaGreat
namespace Go.Proofs.YtdfadbpepmkicaaGreat
open Go.RowKit
set_option linter.unusedVariables false
set_option linter.unusedSimpArgs false
def notNm (nm : ByteArray) (b : Bd) : Bool := !decide (b.p.nm = nm)
def butL (bs : List Bd) (nm : ByteArray) : List Bd := bs.filter (notNm nm)
theorem butL_len (bs : List Bd) (nm : ByteArray) : (butL bs nm).length ≤ bs.length := List.length_filter_le _ _
end Go.Proofs.YtdfadbpepmkicaaGreat
namespace Go.Proofs.YtdfadbpepmkicaaGreat
namespace Rs
open Go.RowKit
def partF (a b : Int) : Int := if 0 < b then (if 1000 * a / b ≤ 1000000 then 1000 * a / b else 1000000) else if 0 < a then 1000000 else 0
set_option maxHeartbeats 1000000 in
theorem share1_any (a b : Int) (w : World) (ha : 0 ≤ a) (ha' : a ≤ 1125899906842624) (hb : 0 ≤ b) (hb' : b ≤ 1125899906842624) :
    Calls Tryz.prog 102 #[.int .i64 a, .int .i64 b] w fun e w' => e = .returned (.int .i64 (partF a b)) ∧ w' = w := by
  by_cases hb0 : 0 < b
  · by_cases hm : 1000 * a / b ≤ 1000000
    · have He := Lib.hid (show partF a b = 1000 * a / b by unfold partF; rw [if_pos hb0, if_pos hm])
      go_enter Tryz.func102, Tryz.ntmps102
      go_wp2
      go_ret
      exact ⟨by rw [He.out]; rfl, rfl⟩
    · have He := Lib.hid (show partF a b = 1000000 by unfold partF; rw [if_pos hb0, if_neg hm])
      have hm' : 1000000 < 1000 * a / b := by omega
      go_enter Tryz.func102, Tryz.ntmps102
      go_wp2
      go_ret
      exact ⟨by rw [He.out]; rfl, rfl⟩
  · by_cases ha0 : 0 < a
    · have He := Lib.hid (show partF a b = 1000000 by unfold partF; rw [if_neg hb0, if_pos ha0])
      go_enter Tryz.func102, Tryz.ntmps102
      go_wp2
      go_ret
      exact ⟨by rw [He.out]; rfl, rfl⟩
    · have He := Lib.hid (show partF a b = 0 by unfold partF; rw [if_neg hb0, if_neg ha0])
      go_enter Tryz.func102, Tryz.ntmps102
      go_wp2
      go_ret
      exact ⟨by rw [He.out]; rfl, rfl⟩
def shareF (a0 a1 a2 a3 a4 b0 b1 b2 b3 b4 : Int) : Int := if rtB a0 a1 a2 a3 a4 = true ∧ rtB b0 b1 b2 b3 b4 = true then max (partF a0 b0) (partF a1 b1) else 0
set_option maxHeartbeats 1000000 in
theorem share_any (a0 a1 a2 a3 a4 b0 b1 b2 b3 b4 : Int) (w : World) :
    Calls Tryz.prog 69 #[.agg #[.int .i64 a0, .int .i64 a1, .int .i64 a2, .int .i64 a3, .int .i64 a4], .agg #[.int .i64 b0, .int .i64 b1, .int .i64 b2, .int .i64 b3, .int .i64 b4]] w fun e w' => e = .returned (.int .i64 (shareF a0 a1 a2 a3 a4 b0 b1 b2 b3 b4)) ∧ Below w.heap.size w w' := by
  cases ha : rtB a0 a1 a2 a3 a4
  · have he : shareF a0 a1 a2 a3 a4 b0 b1 b2 b3 b4 = 0 := by simp [shareF, ha]
    rw [he]
    go_enter Tryz.func69, Tryz.ntmps69
    go_wp2_with (go_at_call 99; refine (right_any _ _ _ _ _ _).mono ?_; rintro e w1 ⟨rfl, hb1⟩; obtain ⟨hc1, hf1⟩ := bcell hb1; have hz1 := hb1.size; (try simp at hz1); (try have hza : w.heap.size < w1.heap.size := by omega); (try have hzb : w.heap.size + 1 < w1.heap.size := by omega); (try have hzc : w.heap.size + 1 + 1 < w1.heap.size := by omega); (try have hzd : w.heap.size + 1 + 1 + 1 < w1.heap.size := by omega))
    go_ret
    exact ⟨rfl, by (repeat' (first | with_reducible exact Below.refl _ _ | with_reducible assumption | with_reducible refine Below.drew ?_ | with_reducible refine below_drewN' ?_ _ | with_reducible refine Below.alloc ?_ ?_ _ | with_reducible refine Below.setCell ?_ ?_ _ | with_reducible refine below_step (by assumption) ?_ ?_ | omega | (simp; done) | (simp; omega)))⟩
  cases hb : rtB b0 b1 b2 b3 b4
  · have he : shareF a0 a1 a2 a3 a4 b0 b1 b2 b3 b4 = 0 := by simp [shareF, hb]
    rw [he]
    go_enter Tryz.func69, Tryz.ntmps69
    go_wp2_with (go_at_call 99; refine (right_any _ _ _ _ _ _).mono ?_; rintro e w1 ⟨rfl, hb1⟩; obtain ⟨hc1, hf1⟩ := bcell hb1; have hz1 := hb1.size; (try simp at hz1); (try have hza : w.heap.size < w1.heap.size := by omega); (try have hzb : w.heap.size + 1 < w1.heap.size := by omega); (try have hzc : w.heap.size + 1 + 1 < w1.heap.size := by omega); (try have hzd : w.heap.size + 1 + 1 + 1 < w1.heap.size := by omega))
    go_ret
    exact ⟨rfl, by (repeat' (first | with_reducible exact Below.refl _ _ | with_reducible assumption | with_reducible refine Below.drew ?_ | with_reducible refine below_drewN' ?_ _ | with_reducible refine Below.alloc ?_ ?_ _ | with_reducible refine Below.setCell ?_ ?_ _ | with_reducible refine below_step (by assumption) ?_ ?_ | omega | (simp; done) | (simp; omega)))⟩
  · have He := Lib.hid (show shareF a0 a1 a2 a3 a4 b0 b1 b2 b3 b4 = max (partF a0 b0) (partF a1 b1) from if_pos ⟨ha, hb⟩)
    obtain ⟨⟨al0, au0⟩, ⟨al1, au1⟩, ⟨al2, au2⟩, ⟨al3, au3⟩, ⟨al4, au4⟩⟩ := (rtB_iff _ _ _ _ _).1 ha
    obtain ⟨⟨bl0, bu0⟩, ⟨bl1, bu1⟩, ⟨bl2, bu2⟩, ⟨bl3, bu3⟩, ⟨bl4, bu4⟩⟩ := (rtB_iff _ _ _ _ _).1 hb
    go_enter Tryz.func69, Tryz.ntmps69
    go_wp2_with (go_at_call 99; refine (right_any _ _ _ _ _ _).mono ?_; rintro e w1 ⟨rfl, hb1⟩; obtain ⟨hc1, hf1⟩ := bcell hb1; have hz1 := hb1.size; (try simp at hz1); (try have hza : w.heap.size < w1.heap.size := by omega); (try have hzb : w.heap.size + 1 < w1.heap.size := by omega); (try have hzc : w.heap.size + 1 + 1 < w1.heap.size := by omega); (try have hzd : w.heap.size + 1 + 1 + 1 < w1.heap.size := by omega))
    by_cases hm : partF a1 b1 ≤ partF a0 b0
    · go_quiet ((go_at_call 102; exact Calls.quiet_of_same (share1_any _ _ _ (by omega) (by omega) (by omega) (by omega))))
      go_wp2
      go_ret
      exact ⟨by rw [He.out, Int.max_eq_left hm]; rfl, by (repeat' (first | with_reducible exact Below.refl _ _ | with_reducible assumption | with_reducible refine Below.drew ?_ | with_reducible refine below_drewN' ?_ _ | with_reducible refine Below.alloc ?_ ?_ _ | with_reducible refine Below.setCell ?_ ?_ _ | with_reducible refine below_step (by assumption) ?_ ?_ | omega | (simp; done) | (simp; omega)))⟩
    · have hm' : partF a0 b0 < partF a1 b1 := by omega
      clear hm
      go_quiet ((go_at_call 102; exact Calls.quiet_of_same (share1_any _ _ _ (by omega) (by omega) (by omega) (by omega))))
      go_wp2
      go_ret
      exact ⟨by rw [He.out, Int.max_eq_right (by omega)]; rfl, by (repeat' (first | with_reducible exact Below.refl _ _ | with_reducible assumption | with_reducible refine Below.drew ?_ | with_reducible refine below_drewN' ?_ _ | with_reducible refine Below.alloc ?_ ?_ _ | with_reducible refine Below.setCell ?_ ?_ _ | with_reducible refine below_step (by assumption) ?_ ?_ | omega | (simp; done) | (simp; omega)))⟩
end Rs
end Go.Proofs.YtdfadbpepmkicaaGreat
namespace Go.Proofs.YtdfadbpepmkicaaGreat
open Go.RowKit Go.Shelf
set_option linter.unusedVariables false
set_option linter.unusedSimpArgs false
def usW (L : List Bd) (m : Mac) : Int := Rs.shareF (usedY L m.nm).2.r0 (usedY L m.nm).2.r1 (usedY L m.nm).2.r2 (usedY L m.nm).2.r3 (usedY L m.nm).2.r4 m.r0 m.r1 m.r2 m.r3 m.r4
def candM (L : List Bd) (p : Pd) (m : Mac) : Cn := ⟨m.nm, (prefS m p : Int), usW L m⟩
def candF (ms : List Mac) (L : List Bd) (p : Pd) (x : ByteArray) : Cn := match mOf ms x with | none => ⟨x, 0, 0⟩ | some m => candM L p m
def chooseF (ms : List Mac) (bs : List Bd) (p : Pd) : List ByteArray → ByteArray
  | [] => emp
  | x :: l => (minC (candF ms (butL bs p.nm) p x) (l.map (candF ms (butL bs p.nm) p))).nm
theorem minC_mem : ∀ (l : List Cn) (c : Cn), minC c l = c ∨ minC c l ∈ l
  | [], c => .inl rfl
  | x :: l, c => by
    have h : minC c (x :: l) = minC (pickC c x) l := rfl
    rw [h]
    rcases minC_mem l (pickC c x) with e | e
    · rw [e]
      unfold pickC
      split
      · exact .inr List.mem_cons_self
      · exact .inl rfl
    · exact .inr (List.mem_cons_of_mem _ e)
theorem candF_nm {ms : List Mac} {L : List Bd} {p : Pd} {x : ByteArray} (h : ∃ m, mOf ms x = some m) : (candF ms L p x).nm = x := by
  obtain ⟨m, hm⟩ := h
  unfold candF
  rw [hm]
  show m.nm = x
  have h9 : decide (m.nm = x) = true := List.find?_some (p := fun (m : Mac) => decide (m.nm = x)) (l := ms) hm
  exact of_decide_eq_true h9
theorem chooseF_mem {ms : List Mac} {bs : List Bd} {p : Pd} : ∀ {names : List ByteArray}, names ≠ [] → (∀ x ∈ names, ∃ m, mOf ms x = some m) → chooseF ms bs p names ∈ names
  | [], h, _ => absurd rfl h
  | x :: l, _, h => by
    show (minC (candF ms (butL bs p.nm) p x) (l.map (candF ms (butL bs p.nm) p))).nm ∈ x :: l
    rcases minC_mem (l.map (candF ms (butL bs p.nm) p)) (candF ms (butL bs p.nm) p x) with e | e
    · rw [e, candF_nm (h x List.mem_cons_self)]
      exact List.mem_cons_self
    · obtain ⟨y, hy, e2⟩ := List.mem_map.1 e
      rw [← e2, candF_nm (h y (List.mem_cons_of_mem _ hy))]
      exact List.mem_cons_of_mem _ hy
set_option maxRecDepth 100000 in
set_option maxHeartbeats 4000000 in
theorem scbnd_any (c : Option Addr) (kc : Nat) (xs : List Bd) (w : World) (hF : BndL w c xs) (hm : xs.length ≤ 1000000) :
    Calls Tryz.prog 28 #[.slice c xs.length kc] w (Gives w (OwnL brow 21 w.heap.size 42 xs)) := by
  have HF := Lib.hid hF
  clear hF
  obtain ⟨i0, hi, hz0, hz1, hz2⟩ := info_parts Tryz.info42
  have Hi := Lib.hid hi
  have Hz0 := Lib.hid hz0
  have Hz1 := Lib.hid hz1
  have Hz2 := Lib.hid hz2
  clear hi hz0 hz1 hz2
  cases c with
  | none =>
    obtain rfl : xs = [] := by
      cases xs with
      | nil => rfl
      | cons x xs =>
        obtain ⟨b, o, e, -⟩ := HF.out (Nat.succ_pos _)
        cases e
    have hq : ∀ V : World, (binOp .eql 23 (.slice none 0 kc) (.slice none 0 0)).run Tryz.prog V = .ok (.bool true) V := fun V => Lib.run_eql_slice_nil V _ _ none 0 kc 0 0 Tryz.underlying23
    go_enter Tryz.func28, Tryz.ntmps28
    go_wp2
    refine bodyPost_ret (v := .slice none 0 0) (by simp [results, Tryz.results28, go_sem]) rfl ⟨⟨_, rfl, World.ownsRow_nil _ _ _ _⟩, by (repeat' (first | with_reducible exact Below.refl _ _ | with_reducible assumption | with_reducible refine Below.drew ?_ | with_reducible refine below_drewN' ?_ _ | with_reducible refine Below.alloc ?_ ?_ _ | with_reducible refine Below.setCell ?_ ?_ _ | with_reducible refine below_step (by assumption) ?_ ?_ | omega | (simp; done) | (simp; omega)))⟩
  | some q =>
    have hc3 : 0 + xs.length ≤ maxLen := by unfold maxLen; omega
    have hc4 : (0 + xs.length) * 288 ≤ 140737488355328 := by omega
    have hq : ∀ V : World, (binOp .eql 23 (.slice (some q) xs.length kc) (.slice none 0 0)).run Tryz.prog V = .ok (.bool false) V := fun V => Lib.run_eql_slice_nil V _ _ (some q) _ _ 0 0 Tryz.underlying23
    go_enter Tryz.func28, Tryz.ntmps28
    go_wp2_with (at_builtin; refine wpList_append_src rfl (.tmp 5) (.tmp 6) 23 rfl w.heap.size 42 i0 _ 21 288 Tryz.underlying23 Hi.out Hz0.out Hz1.out Hz2.out rfl (by decide) _ 0 [] rfl (World.ownsRow_made w #[] 0 (Nat.le_refl w.heap.size) (Nat.zero_le _) rfl) (some q) xs.length kc (xs.flatMap brow) rfl (rows_length brow 21 brow_len xs) (RowsAt.news brow_len (HF.out.mono ((Below.refl _ w).alloc (Nat.le_refl _) _))) (fun e => by cases e) (flat_ones brow_one xs) hc3 hc4 (le_alloc (Nat.le_refl w.heap.size) _) ?_; intro v1 w3 hown1 hgrow1; rw [Nat.zero_add, List.nil_append] at hown1; have HB3 := Lib.hid (own_below (World.ownsRow_made w #[] 0 (Nat.le_refl w.heap.size) (Nat.zero_le _) rfl : (w.alloc (.cells #[] 42)).ownsRow w.heap.size 42 21 (.slice (some ⟨w.heap.size, 0, none⟩) 0 0) 0 []) ((Below.refl _ w).alloc (Nat.le_refl w.heap.size) _) (le_alloc (Nat.le_refl w.heap.size) _) hgrow1); have HO3 := Lib.hid hown1; clear hown1 hgrow1)
    refine bodyPost_ret (v := v1) (by simp [results, Tryz.results28, go_sem]) rfl ⟨⟨_, rfl, HO3.out⟩, HB3.out⟩
set_option maxRecDepth 100000 in
set_option maxHeartbeats 4000000 in
theorem delnil_any (fn : Nat) (caps : Array Value) (w : World) :
    Calls Tryz.prog 64 #[.slice none 0 0, .func (.func fn) #[] caps] w fun e w' => e = .returned (.slice none 0 0) ∧ Below w.heap.size w w' := by
  have HI := Lib.hid (show Calls Tryz.prog 98 #[.slice none 0 0, .func (.func fn) #[] caps] w fun e w' => e = .returned (.int .i64 (-1)) ∧ Below w.heap.size w w' by
    go_enter Tryz.func98, Tryz.ntmps98
    go_wp2
    refine wp_loop_rounds 1 ?_
    rw [rounds_succ]
    go_wp2
    go_ret
    exact ⟨rfl, Below.refl _ _⟩)
  go_enter Tryz.func64, Tryz.ntmps64
  go_wp2_with (go_at_call 98; (with_reducible refine HI.out.mono ?_); rintro e w1 ⟨rfl, hb⟩; have HB := Lib.hid hb; clear hb)
  go_ret
  exact ⟨rfl, HB.out⟩
theorem delown_any (B fn : Nat) (caps : Array Value) (q : Bd → Bool) (l : List Bd) (v : Value) (w w0 : World) (hO : w.ownsRow B 42 21 v l.length (l.flatMap brow)) (hB : Below B w0 w) (hs : B ≤ w.heap.size) (hP : ∀ g, B ≤ g → PredB g fn caps q w) (hn : l.length ≤ 1000000) :
    Calls Tryz.prog 64 #[v, .func (.func fn) #[] caps] w fun e w' => (∃ v', e = .returned v' ∧ w'.ownsRow B 42 21 v' (l.filter fun x => !q x).length ((l.filter fun x => !q x).flatMap brow)) ∧ Below B w0 w' ∧ B ≤ w'.heap.size := by
  rcases hO.2 with ⟨rfl, h0⟩ | ⟨g, cap, cur, rfl, hg, r⟩
  · have hl : l = [] := List.eq_nil_of_length_eq_zero h0
    subst hl
    exact (delnil_any fn caps w).mono fun e w' ⟨he, hb⟩ => ⟨⟨_, he, World.ownsRow_nil _ _ _ _⟩, hB.trans (hb.mono hs), Nat.le_trans hs hb.size⟩
  · exact (delf_any B g l.length cap fn caps q l w hO (hP g hg) hn).mono fun e w' ⟨⟨m, hm, he, hr⟩, ho⟩ => ⟨⟨_, he, by rw [← hm]; exact hr⟩, ho.below hB hs (fun k hk => by rw [List.mem_singleton] at hk; omega), Nat.le_trans hs ho.size⟩
set_option maxRecDepth 100000 in
set_option maxHeartbeats 4000000 in
theorem chdel_any (x : Bd) (bx : Nat) (nm : ByteArray) (w : World) (hx : bx < w.heap.size) (hc : w.cell? ⟨bx, 0, none⟩ = some (.string nm)) :
    Calls Tryz.prog 65 #[.agg (brow x).toArray, .pointer (some ⟨bx, 0, none⟩)] w fun e w' => e = .returned (.bool (decide (x.p.nm = nm))) ∧ Below w.heap.size w w' := by
  show Calls Tryz.prog 65 #[.agg #[.string (x.p).nm, .int .i64 (x.p).n0, .int .i64 (x.p).n1, .int .i64 (x.p).n2, .int .i64 (x.p).n3, .int .i64 (x.p).n4, .slice (x.p).la (x.p).labs.length (x.p).lk, .slice (x.p).sa (x.p).sels.length (x.p).sk, .slice (x.p).ta (x.p).trms.length (x.p).tk, .slice (x.p).ba (x.p).bers.length (x.p).bk, .slice (x.p).pa (x.p).prts.length (x.p).pk, .slice (x.p).aa (x.p).aprs.length (x.p).ak, .bool (x.p).wd, .slice (x.p).da (x.p).spds.length (x.p).dk, .int .i64 (x.p).sw, .int .i64 (x.p).rk, .string (x.p).ow, .bool (x.p).dm, .bool (x.p).pn, .bool (x.p).lc, .string x.on], .pointer (some ⟨bx, 0, none⟩)] w fun e w' => e = .returned (.bool (decide (x.p.nm = nm))) ∧ Below w.heap.size w w'
  obtain ⟨W, hW⟩ : ∃ W, W = w.alloc (.cells #[.string (x.p).nm, .int .i64 (x.p).n0, .int .i64 (x.p).n1, .int .i64 (x.p).n2, .int .i64 (x.p).n3, .int .i64 (x.p).n4, .slice (x.p).la (x.p).labs.length (x.p).lk, .slice (x.p).sa (x.p).sels.length (x.p).sk, .slice (x.p).ta (x.p).trms.length (x.p).tk, .slice (x.p).ba (x.p).bers.length (x.p).bk, .slice (x.p).pa (x.p).prts.length (x.p).pk, .slice (x.p).aa (x.p).aprs.length (x.p).ak, .bool (x.p).wd, .slice (x.p).da (x.p).spds.length (x.p).dk, .int .i64 (x.p).sw, .int .i64 (x.p).rk, .string (x.p).ow, .bool (x.p).dm, .bool (x.p).pn, .bool (x.p).lc, .string x.on] 42) := ⟨_, rfl⟩
  have hX : Blk W w.heap.size 42 (brow x) := by rw [hW]; exact Blk.new w _ (brow x)
  have hb : Below w.heap.size w W := by rw [hW]; exact (Below.refl _ _).alloc (Nat.le_refl _) _
  have z0 : W.cell? ⟨w.heap.size, 0, none⟩ = some (.string x.p.nm) := hX.cell 0
  have zl := hX.lt
  have c0 : W.cell? ⟨bx, 0, none⟩ = some (.string nm) := (hb.cell (p := ⟨bx, 0, none⟩) hx).trans hc
  have cl : bx < W.heap.size := Nat.lt_of_lt_of_le hx hb.size
  have HB := Lib.hid hb
  have hone : (x.p.nm.toList == nm.toList) = decide (x.p.nm = nm) := by
    by_cases h : x.p.nm = nm
    · rw [decide_eq_true h, h]; simp
    · rw [decide_eq_false h, beq_eq_false_iff_ne]; exact fun e => h ((str_inj _ _).1 e)
  obtain ⟨y, hy⟩ : ∃ y, x.p.nm = y := ⟨_, rfl⟩
  have Hone := Lib.hid hone
  rw [hy] at z0 Hone
  clear hX hb hx hc hone
  go_enter Tryz.func65, Tryz.ntmps65
  go_upto_region 1 with (fail)
  rw [hy] at hW
  rw [hy, ← hW]
  clear hW
  go_wp2
  go_ret
  first | exact ⟨rfl, HB.out⟩ | exact ⟨by rw [hy]; rfl, HB.out⟩ | exact ⟨by rw [hy, Hone.out]; rfl, HB.out⟩
end Go.Proofs.YtdfadbpepmkicaaGreat
namespace Go.Proofs.YtdfadbpepmkicaaGreat
open Go.RowKit Go.Shelf
set_option linter.unusedVariables false
set_option linter.unusedSimpArgs false
theorem Tryz.info101 : (Tryz.prog.info? 101).map (fun i => (i.zero, i.size, i.bytes)) = some (some (.agg #[.string ⟨#[]⟩, .int .i64 0, .int .i64 0]), 3, 32) := by kernel_rfl
theorem cn_field (R : ByteArray) (u v : Int) (w : World) : (Instr.field 101 (.agg #[.string R, .int .i64 u, .int .i64 v]) 0).run Tryz.prog w = .ok (.string R) w := by kernel_rfl
theorem cand_next {names : List ByteArray} {k : Nat} {x : ByteArray} (h : names[k]? = some x) (f : ByteArray → Cn) : (names.take (k + 1)).map f = (names.take k).map f ++ [f x] := by
  rw [List.take_add_one, h, List.map_append]; rfl
theorem bcell_only {g b : Nat} {W V : World} (h : Only [g] W V) (hb : b < W.heap.size) (hne : b ≠ g) (i : Nat) : V.cell? ⟨b, i, none⟩ = W.cell? ⟨b, i, none⟩ := by
  unfold World.cell?
  rw [show V.heap[(⟨b, i, none⟩ : Addr).block]? = W.heap[b]? from h.block b hb (by rw [List.mem_singleton]; exact hne)]
theorem chpred_any (p : Pd) (b g : Nat) (W : World) (hX : Box b (prow p) W) (hg : b < g) : PredB g 65 #[.pointer (some ⟨b, 0, none⟩)] (fun x => decide (x.p.nm = p.nm)) W :=
  ⟨enters_of Tryz.func65 (by kernel_rfl) rfl, fun x V hO => by
    have hl := hX.lt
    have hc : W.cell? ⟨b, 0, none⟩ = some (.string p.nm) := hX.cell 0
    have hne : b ≠ g := by omega
    exact chdel_any x b p.nm V (Nat.lt_of_lt_of_le hl hO.size) ((bcell_only hO hl hne 0).trans hc)⟩
set_option maxRecDepth 100000 in
set_option maxHeartbeats 8000000 in
theorem choose_any (a c : Option Addr) (ka kc : Nat) (ms : List Mac) (bs : List Bd) (p : Pd) (tx : Option Addr) (kt : Nat) (names : List ByteArray) (w : World) (hY : YA w a ms c bs) (hP : PodAt w p) (hp : lightP p = true) (hT : TxtL w tx names) (hin : ∀ x ∈ names, ∃ m, mOf ms x = some m) (hnl : names.length ≤ 1000) :
    Calls Tryz.prog 44 #[.slice a ms.length ka, .slice c bs.length kc, .agg (prow p).toArray, .slice tx names.length kt] w fun e w' => e = .returned (.string (chooseF ms bs p names)) ∧ Below w.heap.size w w' := by
  obtain ⟨W, hW⟩ : ∃ W, W = (w.alloc (.cells #[.string (p).nm, .int .i64 (p).n0, .int .i64 (p).n1, .int .i64 (p).n2, .int .i64 (p).n3, .int .i64 (p).n4, .slice (p).la (p).labs.length (p).lk, .slice (p).sa (p).sels.length (p).sk, .slice (p).ta (p).trms.length (p).tk, .slice (p).ba (p).bers.length (p).bk, .slice (p).pa (p).prts.length (p).pk, .slice (p).aa (p).aprs.length (p).ak, .bool (p).wd, .slice (p).da (p).spds.length (p).dk, .int .i64 (p).sw, .int .i64 (p).rk, .string (p).ow, .bool (p).dm, .bool (p).pn, .bool (p).lc] 40)) := ⟨_, rfl⟩
  have hX : Box w.heap.size (prow p) W := by rw [hW]; exact (Box.new w (prow p) 40)
  have hbw : Below w.heap.size w W := by rw [hW]; (repeat' (first | with_reducible exact Below.refl _ _ | with_reducible assumption | with_reducible refine Below.drew ?_ | with_reducible refine below_drewN' ?_ _ | with_reducible refine Below.alloc ?_ ?_ _ | with_reducible refine Below.setCell ?_ ?_ _ | with_reducible refine below_step (by assumption) ?_ ?_ | omega | (simp; done) | (simp; omega)))
  have HBw := Lib.hid hbw
  have HX := Lib.hid hX
  have HYA := Lib.hid hY
  have hwW : w.heap.size < W.heap.size := hX.lt
  have HRp := Lib.hid (fun V (h : Box w.heap.size (prow p) V) => show V.rangeAt w.heap.size 0 [.string (p).nm, .int .i64 (p).n0, .int .i64 (p).n1, .int .i64 (p).n2, .int .i64 (p).n3, .int .i64 (p).n4, .slice (p).la (p).labs.length (p).lk, .slice (p).sa (p).sels.length (p).sk, .slice (p).ta (p).trms.length (p).tk, .slice (p).ba (p).bers.length (p).bk, .slice (p).pa (p).prts.length (p).pk, .slice (p).aa (p).aprs.length (p).ak, .bool (p).wd, .slice (p).da (p).spds.length (p).dk, .int .i64 (p).sw, .int .i64 (p).rk, .string (p).ow, .bool (p).dm, .bool (p).pn, .bool (p).lc] from h.range)
  cases names with
  | nil =>
    show Calls Tryz.prog 44 #[.slice a ms.length ka, .slice c bs.length kc, .agg #[.string (p).nm, .int .i64 (p).n0, .int .i64 (p).n1, .int .i64 (p).n2, .int .i64 (p).n3, .int .i64 (p).n4, .slice (p).la (p).labs.length (p).lk, .slice (p).sa (p).sels.length (p).sk, .slice (p).ta (p).trms.length (p).tk, .slice (p).ba (p).bers.length (p).bk, .slice (p).pa (p).prts.length (p).pk, .slice (p).aa (p).aprs.length (p).ak, .bool (p).wd, .slice (p).da (p).spds.length (p).dk, .int .i64 (p).sw, .int .i64 (p).rk, .string (p).ow, .bool (p).dm, .bool (p).pn, .bool (p).lc], .slice tx 0 kt] w _
    clear hX hbw hY hP hp hT hin
    go_enter Tryz.func44, Tryz.ntmps44
    go_upto_region 1 with (fail)
    rw [← hW]
    clear hW
    go_wp2
    go_ret
    exact ⟨rfl, HBw.out⟩
  | cons x0 rest =>
    obtain ⟨n, hn⟩ : ∃ n, rest.length + 1 = n := ⟨_, rfl⟩
    obtain ⟨D, hD⟩ : ∃ D, D = x0 :: rest := ⟨_, rfl⟩
    have HDl := Lib.hid (show D.length = n by rw [hD]; exact hn)
    obtain ⟨nm, hnm⟩ : ∃ m, ms.length = m := ⟨_, rfl⟩
    obtain ⟨N, hN⟩ : ∃ N, bs.length = N := ⟨_, rfl⟩
    have hNb := hY.bb
    have hn1000 : n ≤ 1000 := by rw [← hn]; exact hnl
    have hn1 : 1 ≤ n := by omega
    have HIn := Lib.hid (show ∀ x ∈ D, ∃ m, mOf ms x = some m by rw [hD]; exact hin)
    have HTx := Lib.hid (show TxtL w tx D by rw [hD]; exact hT)
    have HP := Lib.hid hP
    obtain ⟨R, hR⟩ : ∃ R, chooseF ms bs p (x0 :: rest) = R := ⟨_, rfl⟩
    have HMn := Lib.hid (show ∀ V a k, CnL V a (D.map (candF ms (butL bs p.nm) p)) → Calls Tryz.prog 70 #[.slice a n k, .func (.func 71) #[] #[]] V fun e w' => (∃ u v, e = .returned (.agg #[.string R, .int .i64 u, .int .i64 v])) ∧ Below V.heap.size V w' from fun V a k hV => by
      rw [hD, List.map_cons] at hV
      have h9 := mincn_any a k _ _ V hV (by rw [List.length_map]; have := hn; omega)
      rw [List.length_map, hn] at h9
      have hr : (minC (candF ms (butL bs p.nm) p x0) (rest.map (candF ms (butL bs p.nm) p))).nm = R := hR
      rw [hr] at h9
      exact h9.mono fun e w' h => ⟨⟨_, _, h.1⟩, h.2⟩)
    have HCl := Lib.hid (fun V (hV : Below w.heap.size w V) => scbnd_any c kc bs V (hY.bl.mono hV) (by omega))
    have HDel := Lib.hid (show ∀ v1 w1, OwnL brow 21 W.heap.size 42 bs v1 w1 → Below W.heap.size W w1 → Calls Tryz.prog 64 #[v1, .func (.func 65) #[] #[.pointer (some ⟨w.heap.size, 0, none⟩)]] w1 fun e w' => (∃ v', e = .returned v' ∧ w'.ownsRow W.heap.size 42 21 v' (butL bs p.nm).length ((butL bs p.nm).flatMap brow)) ∧ Below W.heap.size W w' ∧ W.heap.size ≤ w'.heap.size from fun v1 w1 h1 h2 => delown_any W.heap.size 65 #[.pointer (some ⟨w.heap.size, 0, none⟩)] (fun x => decide (x.p.nm = p.nm)) bs v1 w1 W h1 h2 h2.size (fun g hg => chpred_any p w.heap.size g w1 (hX.mono h2) (by omega)) (by omega))
    rw [hN] at HCl hNb
    rw [hnm, hN, hR]
    show Calls Tryz.prog 44 #[.slice a nm ka, .slice c N kc, .agg #[.string (p).nm, .int .i64 (p).n0, .int .i64 (p).n1, .int .i64 (p).n2, .int .i64 (p).n3, .int .i64 (p).n4, .slice (p).la (p).labs.length (p).lk, .slice (p).sa (p).sels.length (p).sk, .slice (p).ta (p).trms.length (p).tk, .slice (p).ba (p).bers.length (p).bk, .slice (p).pa (p).prts.length (p).pk, .slice (p).aa (p).aprs.length (p).ak, .bool (p).wd, .slice (p).da (p).spds.length (p).dk, .int .i64 (p).sw, .int .i64 (p).rk, .string (p).ow, .bool (p).dm, .bool (p).pn, .bool (p).lc], .slice tx (rest.length + 1) kt] w _
    rw [hn]
    have Hnm := Lib.hid hnm
    have HN := Lib.hid hN
    have Hp := Lib.hid hp
    obtain ⟨i0, hi, hz0, hz1, hz2⟩ := info_parts Tryz.info101
    have Hi := Lib.hid hi
    have Hz0 := Lib.hid hz0
    have Hz1 := Lib.hid hz1
    have Hz2 := Lib.hid hz2
    clear hi hz0 hz1 hz2
    clear hX hbw hY hP hp hT hin hnl hR hD hn hN hnm
    go_enter Tryz.func44, Tryz.ntmps44
    go_upto_region 1 with (fail)
    rw [← hW]
    clear hW
    go_upto_region 6 with (first
      | (go_at_call 28; (with_reducible refine (HCl.out _ HBw.out).mono ?_); rintro e w1 ⟨⟨v1, rfl, ho1⟩, hb1⟩; have HO1 := Lib.hid ho1; have HB1 := Lib.hid hb1; clear ho1 hb1)
      | (go_at_call 64; (with_reducible refine (HDel.out v1 w1 HO1.out HB1.out).mono ?_); rintro e w2 ⟨⟨v2, rfl, ho2⟩, hb2, hz2⟩; have HO2 := Lib.hid ho2; have HB2 := Lib.hid hb2; clear ho2 hb2))
    obtain ⟨ao, ko, rfl⟩ := own_sl HO2.out
    have hpts := own_parts brow_len (by decide) HO2.out
    have HBo := Lib.hid (show BndL w2 ao (butL bs p.nm) from hpts.1)
    obtain ⟨V3, hV3⟩ : ∃ V3, V3 = w2 := ⟨_, rfl⟩
    rw [← hV3] at HBo HB2 hz2 ⊢
    have HX3 := Lib.hid (HX.out.mono (HB2.out))
    have HB3 := Lib.hid (HBw.out.trans (HB2.out.mono HBw.out.size))
    have hOl := butL_len bs p.nm
    rw [HN.out] at hOl
    obtain ⟨O, hO⟩ : ∃ O, butL bs p.nm = O := ⟨_, rfl⟩
    rw [hO] at HMn HBo hOl
    rw [hO]
    obtain ⟨No, hNo⟩ : ∃ No, O.length = No := ⟨_, rfl⟩
    have HNo := Lib.hid hNo
    rw [hNo] at hOl ⊢
    clear hpts hV3 HO2 hO hNo HO1 HB1 HCl HX
    go_loopw [10, 25] (fun vo vi wr => ∃ (k : Nat) (Q : List Cn), k ≤ n ∧ vi = .int .i64 k ∧ Q = (D.take k).map (candF ms O p) ∧ Q.length = k ∧ wr.ownsRow V3.heap.size 101 3 vo k (Q.flatMap ccells) ∧ Below V3.heap.size V3 wr) (fun _ vi _ => n - (intOf vi).toNat)
    case atStart => exact ⟨0, [], Nat.zero_le _, rfl, rfl, rfl, World.ownsRow_nil _ _ _ _, Below.refl _ _⟩
    case round =>
      obtain ⟨k, Q, hk, rfl, hE, hLk, hOw, hB⟩ := hrel
      have HE := Lib.hid hE
      have HLk := Lib.hid hLk
      have HB := Lib.hid hB
      have HO := Lib.hid hOw
      have hbz := hB.size
      obtain ⟨aq, kq, rfl⟩ := own_sl hOw
      have HBg := Lib.hid (HB3.out.trans (hB.mono HB3.out.size))
      by_cases hlt : k < n
      · obtain ⟨x, hx⟩ := mem_at (l := D) (k := k) (by rw [HDl.out]; exact hlt)
        obtain ⟨b, o, rfl, hb, hc⟩ := (HTx.out.mono HBg.out) (by rw [HDl.out]; omega)
        have c0 : wr.cell? ⟨b, o + k, none⟩ = some (.string x) := by
          have h9 := hc k x hx 0 (by decide)
          rw [Nat.mul_one] at h9
          exact h9
        have HNx := Lib.hid (show Q ++ [candF ms O p x] = (D.take (k + 1)).map (candF ms O p) by rw [cand_next hx, hE])
        obtain ⟨m, hm0⟩ := HIn.out x (List.mem_of_getElem? hx)
        rcases find_cases ms x with ⟨_, h2⟩ | ⟨i, m', h1, h2, h3, h4⟩
        · rw [hm0] at h2; cases h2
        obtain rfl : m = m' := by rw [hm0] at h4; exact Option.some.inj h4
        subst h3
        have hcand : candF ms O p m.nm = ⟨m.nm, (prefS m p : Int), usW O m⟩ := by unfold candF; rw [hm0]; rfl
        rw [hcand] at HNx
        have hmm := List.mem_of_getElem? h2
        have hin : i < nm := by rw [← Hnm.out]; exact (List.getElem?_eq_some_iff.1 h2).1
        have HFi := Lib.hid (show Calls Tryz.prog 66 #[.slice a nm ka, .string m.nm] wr fun e w' => e = .returned (.int .i64 (i : Nat)) ∧ Below wr.heap.size wr w' by
          have h9 := find_any a ka ms m.nm wr (HYA.out.ml.mono HBg.out) (by have := HYA.out.mm; omega)
          rw [h1, Hnm.out] at h9
          exact h9)
        obtain ⟨q, f, rfl, hq, hd⟩ := (HYA.out.mono HBg.out).ml (by rw [Hnm.out]; omega)
        have HQ := Lib.hid (show wr.rangeAt q (f + i * 10) [.string (m).nm, .string (m).gp, .int .i64 (m).r0, .int .i64 (m).r1, .int .i64 (m).r2, .int .i64 (m).r3, .int .i64 (m).r4, .slice (m).la (m).labs.length (m).lk, .slice (m).ta (m).tnts.length (m).tk, .bool (m).rd] from fun j v hj => by
          have hj10 : j < 10 := (List.getElem?_eq_some_iff.1 hj).1
          rw [hd i m h2 j hj10]
          exact hj)
        obtain ⟨U, hU⟩ : ∃ U, usedY O m.nm = U := ⟨_, rfl⟩
        have hus : usW O m = Rs.shareF U.2.r0 U.2.r1 U.2.r2 U.2.r3 U.2.r4 m.r0 m.r1 m.r2 m.r3 m.r4 := by unfold usW; rw [hU]
        have hUs := fun V (hV : Below V3.heap.size V3 V) => used_any ao ko O m.nm V (HBo.out.mono hV) (by rw [HNo.out]; omega)
        rw [hU, HNo.out] at hUs
        obtain ⟨ue, u0, u1, u2, u3, u4⟩ := U
        have HUs := Lib.hid (show ∀ V, Below V3.heap.size V3 V → Calls Tryz.prog 67 #[.slice ao No ko, .string m.nm] V fun e w' => e = .returned (.tuple #[.agg #[.int .i64 u0, .int .i64 u1, .int .i64 u2, .int .i64 u3, .int .i64 u4], .int .i64 ue]) ∧ Below V.heap.size V w' from hUs)
        have HSh := Lib.hid (show ∀ V, Calls Tryz.prog 69 #[.agg #[.int .i64 u0, .int .i64 u1, .int .i64 u2, .int .i64 u3, .int .i64 u4], .agg #[.int .i64 m.r0, .int .i64 m.r1, .int .i64 m.r2, .int .i64 m.r3, .int .i64 m.r4]] V fun e w' => e = .returned (.int .i64 (usW O m)) ∧ Below V.heap.size V w' from fun V => by rw [hus]; exact Rs.share_any u0 u1 u2 u3 u4 m.r0 m.r1 m.r2 m.r3 m.r4 V)
        have HPf := Lib.hid (show ∀ V, Below w.heap.size w V → Calls Tryz.prog 68 #[.agg #[.string (m).nm, .string (m).gp, .int .i64 (m).r0, .int .i64 (m).r1, .int .i64 (m).r2, .int .i64 (m).r3, .int .i64 (m).r4, .slice (m).la (m).labs.length (m).lk, .slice (m).ta (m).tnts.length (m).tk, .bool (m).rd], .agg #[.string (p).nm, .int .i64 (p).n0, .int .i64 (p).n1, .int .i64 (p).n2, .int .i64 (p).n3, .int .i64 (p).n4, .slice (p).la (p).labs.length (p).lk, .slice (p).sa (p).sels.length (p).sk, .slice (p).ta (p).trms.length (p).tk, .slice (p).ba (p).bers.length (p).bk, .slice (p).pa (p).prts.length (p).pk, .slice (p).aa (p).aprs.length (p).ak, .bool (p).wd, .slice (p).da (p).spds.length (p).dk, .int .i64 (p).sw, .int .i64 (p).rk, .string (p).ow, .bool (p).dm, .bool (p).pn, .bool (p).lc]] V fun e w' => e = .returned (.int .i64 (prefS m p)) ∧ Below V.heap.size V w' from fun V hV => sprefers_any m p V ((HYA.out.mono hV).mi m hmm).here (HP.out.mono hV) (HYA.out.lm m hmm) Hp.out)
        obtain ⟨us, hus2⟩ : ∃ u, usW O m = u := ⟨_, rfl⟩
        obtain ⟨pr, hpr⟩ : ∃ u, prefS m p = u := ⟨_, rfl⟩
        rw [hus2] at HSh HNx
        rw [hpr] at HPf HNx
        clear hE hLk hOw hB hc hx hm0 h1 h2 h4 hcand hmm hd hU hus hUs hus2 hpr
        go_upto_region 10 with (first
          | (go_at_call 66; (with_reducible refine HFi.out.mono ?_); rintro e w4 ⟨rfl, hb4⟩; have HB4 := Lib.hid (HB.out.trans (hb4.mono hbz)); have HQ4 := Lib.hid (rangeAt_mono HQ.out hq hb4); have HO4 := Lib.hid (own_kept HO.out hb4); have hbz4 := Nat.le_trans hbz hb4.size; clear hb4)
          | ((with_reducible refine at_load (ty := 57) ?_); refine load_cells rfl 57 (.tmp 33) rfl q (f + i * 10) rfl [.string (m).nm, .string (m).gp, .int .i64 (m).r0, .int .i64 (m).r1, .int .i64 (m).r2, .int .i64 (m).r3, .int .i64 (m).r4, .slice (m).la (m).labs.length (m).lk, .slice (m).ta (m).tnts.length (m).tk, .bool (m).rd] _ Tryz.underlying57 rfl (by kernel_rfl) HQ4.out ?_)
          | ((with_reducible refine at_store (ty := 57) ?_); refine store_new rfl 57 (.tmp 13) (.tmp 34) rfl _ _ (by rfl) rfl (by kernel_rfl) rfl (by rfl) rfl ?_; have HM5 := Lib.hid (Blk.new w4 57 [.string (m).nm, .string (m).gp, .int .i64 (m).r0, .int .i64 (m).r1, .int .i64 (m).r2, .int .i64 (m).r3, .int .i64 (m).r4, .slice (m).la (m).labs.length (m).lk, .slice (m).ta (m).tnts.length (m).tk, .bool (m).rd]); have HB5 := Lib.hid (HB4.out.alloc hbz4 (.cells #[.string (m).nm, .string (m).gp, .int .i64 (m).r0, .int .i64 (m).r1, .int .i64 (m).r2, .int .i64 (m).r3, .int .i64 (m).r4, .slice (m).la (m).labs.length (m).lk, .slice (m).ta (m).tnts.length (m).tk, .bool (m).rd] 57)); have HO5 := Lib.hid (HO4.out.alloc (.cells #[.string (m).nm, .string (m).gp, .int .i64 (m).r0, .int .i64 (m).r1, .int .i64 (m).r2, .int .i64 (m).r3, .int .i64 (m).r4, .slice (m).la (m).labs.length (m).lk, .slice (m).ta (m).tnts.length (m).tk, .bool (m).rd] 57)))
          | (go_at_call 67; (with_reducible refine (HUs.out _ HB5.out).mono ?_); rintro e w6 ⟨rfl, hb6⟩; have HM6 := Lib.hid (HM5.out.below hb6); have HB6 := Lib.hid (HB5.out.trans (hb6.mono HB5.out.size)); have HO6 := Lib.hid (own_kept HO5.out hb6); have hbz6 := HB6.out.size; clear hb6)
          | ((with_reducible refine at_store (ty := 35) ?_); refine store_new rfl 35 (.tmp 14) (.tmp 39) rfl _ _ (by rfl) rfl (by kernel_rfl) rfl (by rfl) rfl ?_; have HR7 := Lib.hid (Blk.new w6 35 [.int .i64 u0, .int .i64 u1, .int .i64 u2, .int .i64 u3, .int .i64 u4]); have HM7 := Lib.hid (HM6.out.alloc (.cells #[.int .i64 u0, .int .i64 u1, .int .i64 u2, .int .i64 u3, .int .i64 u4] 35)); have HB7 := Lib.hid (HB6.out.alloc hbz6 (.cells #[.int .i64 u0, .int .i64 u1, .int .i64 u2, .int .i64 u3, .int .i64 u4] 35)); have HO7 := Lib.hid (HO6.out.alloc (.cells #[.int .i64 u0, .int .i64 u1, .int .i64 u2, .int .i64 u3, .int .i64 u4] 35))))
        obtain ⟨W7, hW7⟩ : ∃ W, W = w6.alloc (.cells #[.int .i64 u0, .int .i64 u1, .int .i64 u2, .int .i64 u3, .int .i64 u4] 35) := ⟨_, rfl⟩
        rw [← hW7] at HR7 HM7 HB7 HO7 ⊢
        have HX7 := Lib.hid (HRp.out W7 (HX3.out.mono HB7.out))
        have HG7 := Lib.hid (HB3.out.trans (HB7.out.mono HB3.out.size))
        have HM8 := Lib.hid (show W7.rangeAt w4.heap.size 0 [.string (m).nm, .string (m).gp, .int .i64 (m).r0, .int .i64 (m).r1, .int .i64 (m).r2, .int .i64 (m).r3, .int .i64 (m).r4, .slice (m).la (m).labs.length (m).lk, .slice (m).ta (m).tnts.length (m).tk, .bool (m).rd] from fun j v hj => by rw [Nat.zero_add, HM7.out.cell]; exact hj)
        have HM9 := Lib.hid (show W7.rangeAt w4.heap.size 2 [.int .i64 m.r0, .int .i64 m.r1, .int .i64 m.r2, .int .i64 m.r3, .int .i64 m.r4] from fun j v hj => by
          rw [HM7.out.cell, Nat.add_comm 2 j]
          match j, hj with
          | 0, h => exact h
          | 1, h => exact h
          | 2, h => exact h
          | 3, h => exact h
          | 4, h => exact h)
        have HR8 := Lib.hid (show W7.rangeAt w6.heap.size 0 [.int .i64 u0, .int .i64 u1, .int .i64 u2, .int .i64 u3, .int .i64 u4] from fun j v hj => by rw [Nat.zero_add, HR7.out.cell]; exact hj)
        have hl4 := HM7.out.lt
        have hl6 := HR7.out.lt
        have hl0 : w.heap.size < W7.heap.size := Nat.lt_of_lt_of_le hwW (Nat.le_trans hz2 HB7.out.size)
        clear hW7 HM5 HM6 HM7 HR7 HB4 HB5 HB6 HO4 HO5 HO6 HQ HQ4 hbz4 hbz6 HFi HUs
        have HNw := Lib.hid (fun (V : World) => show RowsAt ccells 3 (V.alloc (.cells #[.string m.nm, .int .i64 (pr : Nat), .int .i64 us] 101)) (some ⟨V.heap.size, 0, none⟩) [⟨m.nm, ((pr : Nat) : Int), us⟩] from RowsAt.new ccells_len V [⟨m.nm, ((pr : Nat) : Int), us⟩] 101)
        have hcH := held_cell
        refine region_rel_tail 11 (by kernel_rfl) (by kernel_rfl) (by kernel_rfl) ?_
        dsimp only [List.take, List.drop]
        repeat
          ((with_reducible refine relStep (fun K hK => ?_))
           (have HK := Lib.hid hK)
           clear hK
           (apply relInl
            · intro r n hf
              have Hf := Lib.hid hf
              clear hf
              (first
                | ((first | ((with_reducible refine at_rel (ty := 57) ?_); refine rel_load rfl w4.heap.size 0 rfl [.string (m).nm, .string (m).gp, .int .i64 (m).r0, .int .i64 (m).r1, .int .i64 (m).r2, .int .i64 (m).r3, .int .i64 (m).r4, .slice (m).la (m).labs.length (m).lk, .slice (m).ta (m).tnts.length (m).tk, .bool (m).rd] _ Tryz.underlying57 rfl (by kernel_rfl) (rangeAt_mono HM8.out hl4 n.below) rfl) | ((with_reducible refine at_rel (ty := 40) ?_); refine rel_load rfl w.heap.size 0 rfl [.string (p).nm, .int .i64 (p).n0, .int .i64 (p).n1, .int .i64 (p).n2, .int .i64 (p).n3, .int .i64 (p).n4, .slice (p).la (p).labs.length (p).lk, .slice (p).sa (p).sels.length (p).sk, .slice (p).ta (p).trms.length (p).tk, .slice (p).ba (p).bers.length (p).bk, .slice (p).pa (p).prts.length (p).pk, .slice (p).aa (p).aprs.length (p).ak, .bool (p).wd, .slice (p).da (p).spds.length (p).dk, .int .i64 (p).sw, .int .i64 (p).rk, .string (p).ow, .bool (p).dm, .bool (p).pn, .bool (p).lc] _ Tryz.underlying40 rfl (by kernel_rfl) (rangeAt_mono HX7.out hl0 n.below) rfl) | ((with_reducible refine at_rel (ty := 35) ?_); first | refine rel_load rfl w6.heap.size 0 rfl [.int .i64 u0, .int .i64 u1, .int .i64 u2, .int .i64 u3, .int .i64 u4] _ Tryz.underlying35 rfl (by kernel_rfl) (rangeAt_mono HR8.out hl6 n.below) rfl | refine rel_load rfl w4.heap.size 2 rfl [.int .i64 m.r0, .int .i64 m.r1, .int .i64 m.r2, .int .i64 m.r3, .int .i64 m.r4] _ Tryz.underlying35 rfl (by kernel_rfl) (rangeAt_mono HM9.out hl4 n.below) rfl)))
                | (unfold relAt
                   go_simp
                   (first | (refine relUpon_val ?_ (Below.refl _ _); exact rfl) | exact rfl | (refine relUpon_enter ?_; (first | (go_at_call 68; (with_reducible refine (HPf.out _ (HG7.out.trans (n.below.mono HG7.out.size))).mono ?_); rintro e w9 ⟨rfl, hb⟩; exact ⟨⟨_, rfl, rfl⟩, hb⟩) | (go_at_call 69; (with_reducible refine (HSh.out _).mono ?_); rintro e w9 ⟨rfl, hb⟩; exact ⟨⟨_, rfl, rfl⟩, hb⟩))))))
            (simp only [Act.put, List.setIfInBounds_toArray, List.set_cons_zero, List.set_cons_succ])
            (with_reducible refine HK.out _ _ ?_)
            clear HK K))
        (with_reducible refine relStep (fun K hK => ?_))
        (have HK := Lib.hid hK)
        clear hK
        refine relInr (IsL ccells 3 [⟨m.nm, ((pr : Nat) : Int), us⟩]) (IsL.stays _) (fun r n hf => ?_) ?_
        · have Hf := Lib.hid hf
          clear hf HK K
          unfold relAt
          (skip)
          go_simp
          ((refine relUpon_val ?_ ?_; exact ⟨_, _, rfl, (fun e => by cases e), HNw.out n.w⟩; exact (Below.refl _ _).alloc (Nat.le_refl _) _))
        (simp only [Act.put, List.setIfInBounds_toArray, List.set_cons_zero, List.set_cons_succ])
        (with_reducible refine HK.out _ _ ?_)
        clear HK K
        refine relNil ?_
        intro r9 n9 hx9
        clear hcH
        (try simp only [List.nil_append, List.cons_append, List.mem_cons, List.not_mem_nil, or_false, forall_eq_or_imp, forall_eq, false_implies, implies_true] at hx9)
        obtain ⟨w9, hb9⟩ := n9
        (try dsimp only)
        obtain ⟨hc9, hf9⟩ := bcell hb9
        have hz9 := hb9.size
        (try simp at hz9)
        obtain ⟨a9, k9, e9, hn9, hr9⟩ := (show IsL ccells 3 [⟨m.nm, ((pr : Nat) : Int), us⟩] (r9 10) w9 from hx9)
        clear hx9
        cases a9 with
        | none => exact absurd (hn9 rfl).1 (by simp)
        | some q9 =>
        (try simp only [Nat.zero_add, Nat.reduceAdd])
        rw [e9]
        have HR9 := Lib.hid hr9
        clear e9 hn9 hr9
        have HO9 := Lib.hid (own_kept HO7.out hb9)
        have HB9 := Lib.hid (HB7.out.trans (hb9.mono HB7.out.size))
        have hbz9 := HB9.out.size
        clear hb9 hc9 hf9 hz9 HM8 HM9 HR8 HX7 HO7 HB7 HPf HSh
        go_wp2_with (at_builtin; refine wpList_append_src rfl (.tmp 41) (.tmp 51) 95 rfl V3.heap.size 101 i0 _ 3 32 Tryz.underlying95 Hi.out Hz0.out Hz1.out Hz2.out rfl (by decide) _ k (Q.flatMap ccells) rfl HO9.out (some q9) 1 k9 (ccells ⟨m.nm, (pr : Int), us⟩) rfl rfl (by simpa using RowsAt.news ccells_len HR9.out) (fun e => by cases e) (ccells_one ⟨m.nm, (pr : Int), us⟩) (by unfold maxLen; omega) (by omega) hbz9 ?_; intro v6 w6 hown6 hgrow6; obtain ⟨a6, k6, rfl⟩ := own_sl hown6; have HB6 := Lib.hid (own_below HO9.out HB9.out hbz9 hgrow6); have HO6 := Lib.hid hown6; clear hown6 hgrow6)
        go_roundw
        case rel =>
          refine ⟨k + 1, Q ++ [⟨m.nm, (pr : Int), us⟩], by omega, by go_num, HNx.out, by rw [List.length_append]; show Q.length + 1 = _; rw [HLk.out], ?_, HB6.out⟩
          rw [List.flatMap_append]
          have h9 := HO6.out
          simpa [ccells] using h9
        case measure => simp [intOf]; omega
      · obtain rfl : k = n := by omega
        have hQe : Q = D.map (candF ms O p) := by rw [hE, List.take_of_length_le (by rw [HDl.out]; exact Nat.le_refl _)]
        have hpt := own_parts (l := Q) ccells_len (by decide) (by rw [hLk]; exact hOw)
        rw [hQe] at hpt
        have HCn := Lib.hid (show CnL wr aq (D.map (candF ms O p)) from hpt.1)
        clear hpt hQe hE hOw hB
        go_wp2_with (go_at_call 70; (with_reducible refine (HMn.out _ _ _ HCn.out).mono ?_); rintro e w5 ⟨⟨u, v, rfl⟩, hb5⟩; have HB5 := Lib.hid (HBg.out.trans (hb5.mono HBg.out.size)); have hfd := cn_field R u v; clear hb5)
        go_ret
        exact ⟨rfl, HB5.out⟩
end Go.Proofs.YtdfadbpepmkicaaGreat
namespace Go.Proofs.YtdfadbpepmkicaaGreat
open Go.RowKit Go.Shelf
set_option linter.unusedVariables false
set_option linter.unusedSimpArgs false
def bestF (ms : List Mac) (bs : List Bd) (p : Pd) : ByteArray := chooseF ms bs p (whereF ms bs p)
theorem where_in {ms : List Mac} {bs : List Bd} {p : Pd} : ∀ x ∈ whereF ms bs p, ∃ m ∈ ms, m.nm = x ∧ whyF ms bs p x = 0 := fun x hx => by
  obtain ⟨m, hm, rfl⟩ := List.mem_map.1 hx
  obtain ⟨h1, h2⟩ := List.mem_filter.1 hm
  exact ⟨m, h1, rfl, of_decide_eq_true h2⟩
theorem mOf_some {ms : List Mac} {m : Mac} (h : m ∈ ms) : ∃ m', mOf ms m.nm = some m' := by
  have h9 : (mOf ms m.nm).isSome = true := List.find?_isSome.2 ⟨m, h, decide_eq_true rfl⟩
  exact Option.isSome_iff_exists.1 h9
theorem bestF_in {ms : List Mac} {bs : List Bd} {p : Pd} (h : bestF ms bs p ≠ emp) : ∃ m ∈ ms, m.nm = bestF ms bs p ∧ whyF ms bs p (bestF ms bs p) = 0 := by
  by_cases hw : whereF ms bs p = []
  · exact absurd (show bestF ms bs p = emp by unfold bestF; rw [hw]; rfl) h
  · exact where_in _ (chooseF_mem hw fun x hx => by
      obtain ⟨m, hm, rfl, _⟩ := where_in x hx
      exact mOf_some hm)
def setOn (X : List Bd) (i : Nat) (b : Bd) (t : ByteArray) : List Bd := X.set i ⟨b.p, t⟩
abbrev StT := List Bd × List (ByteArray × ByteArray)
def bindS (s : StT) (i : Nat) (b : Bd) (t : ByteArray) : StT := if t = emp then s else (setOn s.1 i b t, s.2 ++ [(b.p.nm, t)])
def stepS (ms : List Mac) (s : StT) (i : Int) : StT := match s.1[i.toNat]? with
  | none => s
  | some b => bindS s i.toNat b (bestF ms s.1 b.p)
def stepF (ms : List Mac) (bs : List Bd) : StT := (ordB bs bs.length).foldl (stepS ms) (bs, [])
theorem step_next {ms : List Mac} {O : List Int} {k : Nat} {x : Int} (h : O[k]? = some x) (s : StT) : (O.take (k + 1)).foldl (stepS ms) s = stepS ms ((O.take k).foldl (stepS ms) s) x := by
  rw [List.take_add_one, h, List.foldl_append]; rfl
theorem flat_on (t : ByteArray) : ∀ (X : List Bd) (i : Nat) (b : Bd), X[i]? = some b → (X.flatMap brow).set (i * 21 + 20) (.string t) = (setOn X i b t).flatMap brow
  | [], i, b, h => by cases h
  | z :: X, 0, b, h => by
    obtain rfl : z = b := by simpa using h
    show List.set (brow z ++ X.flatMap brow) 20 (.string t) = brow ⟨z.p, t⟩ ++ X.flatMap brow
    rw [List.set_append_left _ _ (by rw [brow_len]; decide)]
    rfl
  | z :: X, i + 1, b, h => by
    have h2 : X[i]? = some b := by simpa using h
    show List.set (brow z ++ X.flatMap brow) ((i + 1) * 21 + 20) (.string t) = brow z ++ (setOn X i b t).flatMap brow
    rw [List.set_append_right _ _ (by rw [brow_len]; omega), brow_len, show (i + 1) * 21 + 20 - 21 = i * 21 + 20 by omega, flat_on t X i b h2]
theorem setOn_pods {X : List Bd} {i : Nat} {b : Bd} (h : X[i]? = some b) (t : ByteArray) : (setOn X i b t).map Bd.p = X.map Bd.p := by
  unfold setOn
  rw [List.map_set]
  refine List.ext_getElem? fun j => ?_
  rw [List.getElem?_set]
  split
  · rename_i e
    subst e
    obtain ⟨h1, h2⟩ := List.getElem?_eq_some_iff.1 h
    rw [List.length_map, if_pos h1, List.getElem?_map, h]
    rfl
  · rfl
structure StOk (ms : List Mac) (bs X : List Bd) : Prop where
  pods : X.map Bd.p = bs.map Bd.p
  on : ∀ b ∈ X, b.on.size ≤ 300
theorem StOk.len {ms : List Mac} {bs X : List Bd} (h : StOk ms bs X) : X.length = bs.length := by
  have h9 := congrArg List.length h.pods
  simpa using h9
theorem StOk.mem {ms : List Mac} {bs X : List Bd} (h : StOk ms bs X) {b : Bd} (hb : b ∈ X) : ∃ c ∈ bs, c.p = b.p := by
  have h9 : b.p ∈ bs.map Bd.p := by rw [← h.pods]; exact List.mem_map_of_mem hb
  obtain ⟨c, hc, e⟩ := List.mem_map.1 h9
  exact ⟨c, hc, e⟩
theorem StOk.set {ms : List Mac} {bs X : List Bd} (h : StOk ms bs X) {i : Nat} {b : Bd} (hb : X[i]? = some b) {t : ByteArray} (ht : t.size ≤ 300) : StOk ms bs (setOn X i b t) :=
  ⟨(setOn_pods hb t).trans h.pods, fun c hc => by
    rcases List.mem_or_eq_of_mem_set hc with h1 | h1
    · exact h.on c h1
    · rw [h1]; exact ht⟩
theorem YA.step {w : World} {a c : Option Addr} {ms : List Mac} {bs X : List Bd} (h : YA w a ms c bs) (hX : StOk ms bs X) {c' : Option Addr} (hB : BndL w c' X) : YA w a ms c' X where
  ml := h.ml
  mi := h.mi
  bl := hB
  bi := fun b hb => by
    obtain ⟨d, hd, e⟩ := hX.mem hb
    rw [← e]; exact h.bi d hd
  mm := h.mm
  bb := by rw [hX.len]; exact h.bb
  lm := h.lm
  lb := fun b hb => by
    obtain ⟨d, hd, e⟩ := hX.mem hb
    rw [← e]; exact h.lb d hd
  lo := hX.on
theorem stepS_at {ms : List Mac} {s : StT} {i : Nat} {b : Bd} (h : s.1[i]? = some b) : stepS ms s (i : Int) = bindS s i b (bestF ms s.1 b.p) := by
  unfold stepS
  rw [Int.toNat_natCast, h]
theorem lightM_nm {m : Mac} (h : lightM m = true) : m.nm.size ≤ 300 := by
  exact (lightM_iff h).nm
end Go.Proofs.YtdfadbpepmkicaaGreat
namespace Go.Proofs.YtdfadbpepmkicaaGreat
open Go.RowKit Go.Shelf
set_option linter.unusedVariables false
set_option linter.unusedSimpArgs false
set_option maxRecDepth 100000 in
set_option maxHeartbeats 4000000 in
theorem best_any (a c : Option Addr) (ka kc : Nat) (ms : List Mac) (bs : List Bd) (p : Pd) (w : World) (hY : YA w a ms c bs) (hP : PodAt w p) (hp : lightP p = true) :
    Calls Tryz.prog 18 #[.slice a ms.length ka, .slice c bs.length kc, .agg (prow p).toArray] w fun e w' => e = .returned (.string (bestF ms bs p)) ∧ Below w.heap.size w w' := by
  obtain ⟨Z, hZ⟩ : ∃ Z, whereF ms bs p = Z := ⟨_, rfl⟩
  have HWh := Lib.hid (fun V (hV : Below w.heap.size w V) => where_any a c ka kc ms bs p V (hY.mono hV) (hP.mono hV) hp)
  have HCh := Lib.hid (fun V t k (hV : Below w.heap.size w V) (hT : TxtL V t Z) => choose_any a c ka kc ms bs p t k Z V (hY.mono hV) (hP.mono hV) hp hT (fun x hx => by
    rw [← hZ] at hx
    obtain ⟨m, hm, rfl, _⟩ := where_in x hx
    exact mOf_some hm) (by rw [← hZ]; unfold whereF; rw [List.length_map]; exact Nat.le_trans (List.length_filter_le _ _) hY.mm))
  rw [hZ] at HWh
  obtain ⟨R, hR⟩ : ∃ R, bestF ms bs p = R := ⟨_, rfl⟩
  have hR2 : chooseF ms bs p Z = R := by rw [← hR, ← hZ]; rfl
  rw [hR2] at HCh
  rw [hR]
  obtain ⟨W, hW⟩ : ∃ W, W = (w.alloc (.cells #[.string (p).nm, .int .i64 (p).n0, .int .i64 (p).n1, .int .i64 (p).n2, .int .i64 (p).n3, .int .i64 (p).n4, .slice (p).la (p).labs.length (p).lk, .slice (p).sa (p).sels.length (p).sk, .slice (p).ta (p).trms.length (p).tk, .slice (p).ba (p).bers.length (p).bk, .slice (p).pa (p).prts.length (p).pk, .slice (p).aa (p).aprs.length (p).ak, .bool (p).wd, .slice (p).da (p).spds.length (p).dk, .int .i64 (p).sw, .int .i64 (p).rk, .string (p).ow, .bool (p).dm, .bool (p).pn, .bool (p).lc] 40)) := ⟨_, rfl⟩
  have hX : Box w.heap.size (prow p) W := by rw [hW]; exact (Box.new w (prow p) 40)
  have hbw : Below w.heap.size w W := by rw [hW]; (repeat' (first | with_reducible exact Below.refl _ _ | with_reducible assumption | with_reducible refine Below.drew ?_ | with_reducible refine below_drewN' ?_ _ | with_reducible refine Below.alloc ?_ ?_ _ | with_reducible refine Below.setCell ?_ ?_ _ | with_reducible refine below_step (by assumption) ?_ ?_ | omega | (simp; done) | (simp; omega)))
  have HB := Lib.hid hbw
  have HRx := Lib.hid (show W.rangeAt w.heap.size 0 [.string (p).nm, .int .i64 (p).n0, .int .i64 (p).n1, .int .i64 (p).n2, .int .i64 (p).n3, .int .i64 (p).n4, .slice (p).la (p).labs.length (p).lk, .slice (p).sa (p).sels.length (p).sk, .slice (p).ta (p).trms.length (p).tk, .slice (p).ba (p).bers.length (p).bk, .slice (p).pa (p).prts.length (p).pk, .slice (p).aa (p).aprs.length (p).ak, .bool (p).wd, .slice (p).da (p).spds.length (p).dk, .int .i64 (p).sw, .int .i64 (p).rk, .string (p).ow, .bool (p).dm, .bool (p).pn, .bool (p).lc] from hX.range)
  have hlx := hX.lt
  obtain ⟨N, hN⟩ : ∃ N, bs.length = N := ⟨_, rfl⟩
  obtain ⟨n, hn⟩ : ∃ n, ms.length = n := ⟨_, rfl⟩
  rw [hn, hN] at HWh HCh ⊢
  have HW2 := Lib.hid (show ∀ V, Below w.heap.size w V → Calls Tryz.prog 45 #[.slice a n ka, .slice c N kc, .agg #[.string (p).nm, .int .i64 (p).n0, .int .i64 (p).n1, .int .i64 (p).n2, .int .i64 (p).n3, .int .i64 (p).n4, .slice (p).la (p).labs.length (p).lk, .slice (p).sa (p).sels.length (p).sk, .slice (p).ta (p).trms.length (p).tk, .slice (p).ba (p).bers.length (p).bk, .slice (p).pa (p).prts.length (p).pk, .slice (p).aa (p).aprs.length (p).ak, .bool (p).wd, .slice (p).da (p).spds.length (p).dk, .int .i64 (p).sw, .int .i64 (p).rk, .string (p).ow, .bool (p).dm, .bool (p).pn, .bool (p).lc]] V fun e w' => (∃ v, e = .returned v ∧ IsL scs 1 Z v w') ∧ Below V.heap.size V w' from fun V hV => (HWh.out V hV).mono fun e w' h => by
    obtain ⟨⟨v, e1, e2⟩, hb⟩ := h
    exact ⟨⟨v, e1, IsL.of_own (K := 1) (fun _ => rfl) (Nat.le_refl 1) e2⟩, hb⟩)
  have HC2 := Lib.hid (show ∀ V t k, Below w.heap.size w V → TxtL V t Z → Calls Tryz.prog 44 #[.slice a n ka, .slice c N kc, .agg #[.string (p).nm, .int .i64 (p).n0, .int .i64 (p).n1, .int .i64 (p).n2, .int .i64 (p).n3, .int .i64 (p).n4, .slice (p).la (p).labs.length (p).lk, .slice (p).sa (p).sels.length (p).sk, .slice (p).ta (p).trms.length (p).tk, .slice (p).ba (p).bers.length (p).bk, .slice (p).pa (p).prts.length (p).pk, .slice (p).aa (p).aprs.length (p).ak, .bool (p).wd, .slice (p).da (p).spds.length (p).dk, .int .i64 (p).sw, .int .i64 (p).rk, .string (p).ow, .bool (p).dm, .bool (p).pn, .bool (p).lc], .slice t Z.length k] V fun e w' => e = .returned (.string R) ∧ Below V.heap.size V w' from HCh.out)
  show Calls Tryz.prog 18 #[.slice a n ka, .slice c N kc, .agg #[.string (p).nm, .int .i64 (p).n0, .int .i64 (p).n1, .int .i64 (p).n2, .int .i64 (p).n3, .int .i64 (p).n4, .slice (p).la (p).labs.length (p).lk, .slice (p).sa (p).sels.length (p).sk, .slice (p).ta (p).trms.length (p).tk, .slice (p).ba (p).bers.length (p).bk, .slice (p).pa (p).prts.length (p).pk, .slice (p).aa (p).aprs.length (p).ak, .bool (p).wd, .slice (p).da (p).spds.length (p).dk, .int .i64 (p).sw, .int .i64 (p).rk, .string (p).ow, .bool (p).dm, .bool (p).pn, .bool (p).lc]] w _
  clear hX hbw hY hP hp hN hn hZ hR hR2 HWh HCh
  go_enter Tryz.func18, Tryz.ntmps18
  go_upto_region 1 with (fail)
  rw [← hW]
  clear hW
  have hcH := held_cell
  refine region_rel (by kernel_rfl) (by kernel_rfl) ?_
  repeat
    ((with_reducible refine relStep (fun K hK => ?_))
     (have HK := Lib.hid hK)
     clear hK
     (apply relInl
      · intro r n hf
        have Hf := Lib.hid hf
        clear hf
        (first
          | (((with_reducible refine at_rel (ty := 40) ?_); refine rel_load rfl w.heap.size 0 rfl [.string (p).nm, .int .i64 (p).n0, .int .i64 (p).n1, .int .i64 (p).n2, .int .i64 (p).n3, .int .i64 (p).n4, .slice (p).la (p).labs.length (p).lk, .slice (p).sa (p).sels.length (p).sk, .slice (p).ta (p).trms.length (p).tk, .slice (p).ba (p).bers.length (p).bk, .slice (p).pa (p).prts.length (p).pk, .slice (p).aa (p).aprs.length (p).ak, .bool (p).wd, .slice (p).da (p).spds.length (p).dk, .int .i64 (p).sw, .int .i64 (p).rk, .string (p).ow, .bool (p).dm, .bool (p).pn, .bool (p).lc] _ Tryz.underlying40 rfl (by kernel_rfl) (rangeAt_mono HRx.out hlx n.below) rfl))
          | (unfold relAt
             go_simp
             (first | (refine relUpon_val ?_ (Below.refl _ _); exact rfl) | exact rfl | (refine relUpon_enter ?_; fail))))
      (simp only [Act.put, List.setIfInBounds_toArray, List.set_cons_zero, List.set_cons_succ])
      (with_reducible refine HK.out _ _ ?_)
      clear HK K))
  (with_reducible refine relStep (fun K hK => ?_))
  (have HK := Lib.hid hK)
  clear hK
  refine relInr (IsL scs 1 Z) (IsL.stays _) (fun r n hf => ?_) ?_
  · have Hf := Lib.hid hf
    clear hf HK K
    unfold relAt
    (skip)
    go_simp
    ((refine relUpon_enter ?_; go_at_call 45; (with_reducible refine (HW2.out _ (HB.out.trans (n.below.mono HB.out.size))).mono ?_); rintro e w9 ⟨⟨v, rfl, hv⟩, hb⟩; exact ⟨⟨_, rfl, hv⟩, hb⟩))
  (simp only [Act.put, List.setIfInBounds_toArray, List.set_cons_zero, List.set_cons_succ])
  (with_reducible refine HK.out _ _ ?_)
  clear HK K
  ((with_reducible refine relStep (fun K hK => ?_))
   (have HK := Lib.hid hK)
   clear hK
   (apply relInl
    · intro r n hf
      have Hf := Lib.hid hf
      clear hf
      ((obtain ⟨a1, k1, e1, _, g1⟩ := given_at Hf.out 0 rfl (by dsimp only; decide +kernel); (try dsimp only at e1); unfold relAt; go_simp; refine relUpon_enter ?_; go_at_call 44; (try rw [e1]); (with_reducible refine (HC2.out _ a1 k1 (HB.out.trans (n.below.mono HB.out.size)) g1).mono ?_); rintro e w9 ⟨rfl, hb⟩; exact ⟨⟨_, rfl, rfl⟩, hb⟩)))
   (simp only [Act.put, List.setIfInBounds_toArray, List.set_cons_zero, List.set_cons_succ])
   (with_reducible refine HK.out _ _ ?_)
   clear HK K)
  repeat
    ((with_reducible refine relStep (fun K hK => ?_))
     (have HK := Lib.hid hK)
     clear hK
     (apply relInl
      · intro r n hf
        have Hf := Lib.hid hf
        clear hf
        (first
          | (fail)
          | (unfold relAt
             go_simp
             (first | (refine relUpon_val ?_ (Below.refl _ _); exact rfl) | exact rfl | (refine relUpon_enter ?_; fail))))
      (simp only [Act.put, List.setIfInBounds_toArray, List.set_cons_zero, List.set_cons_succ])
      (with_reducible refine HK.out _ _ ?_)
      clear HK K))
  refine relNil ?_
  intro r9 n9 hx9
  clear hcH
  (try simp only [List.nil_append, List.cons_append, List.mem_cons, List.not_mem_nil, or_false, forall_eq_or_imp, forall_eq, false_implies, implies_true] at hx9)
  obtain ⟨w9, hb9⟩ := n9
  (try dsimp only)
  obtain ⟨hc9, hf9⟩ := bcell hb9
  have hz9 := hb9.size
  (try simp at hz9)
  have HB9 := Lib.hid (HB.out.trans (hb9.mono HB.out.size))
  clear hx9 hb9
  go_wp2
  go_ret
  exact ⟨rfl, HB9.out⟩
end Go.Proofs.YtdfadbpepmkicaaGreat
