/-
  Kin: twice, Alike.
-/
import Derived.Test.YtccplljbljpjpaaDoorKi2
import Derived.Test.YtccplljbljpjpaaDoorMap
import Derived.Maps.Views
namespace Go.Proofs.YtccplljbljpjpaaDoor
open Go.ChangeShapes Go.WideShapes Go.ChangeAt Go.RowKit
set_option linter.unusedVariables false
set_option linter.unusedSimpArgs false

def hasB (L : List ByteArray) (x : ByteArray) : Bool := L.any fun y => decide (y = x)
theorem hasB_iff {L : List ByteArray} {x : ByteArray} : hasB L x = true ↔ x ∈ L := by
  unfold hasB
  rw [List.any_eq_true]
  constructor
  · rintro ⟨y, hy, e⟩
    exact of_decide_eq_true e ▸ hy
  · intro h
    exact ⟨x, h, decide_eq_true rfl⟩
/-- A key that is not yet there goes to the end. -/
def addB (acc : List ByteArray) (x : ByteArray) : List ByteArray := if hasB acc x = true then acc else acc ++ [x]
theorem kin_any (L : List ByteArray) (x : ByteArray) : (L.map kyL).any (fun y => y.sameKey (kyL x)) = hasB L x := by
  unfold hasB
  induction L with
  | nil => rfl
  | cons y L ih =>
    rw [List.map_cons, List.any_cons, List.any_cons, ih]
    by_cases h : y = x
    · subst h
      rw [WideAt.sameKey_self (kyL_key y), decide_eq_true rfl]
    · rw [Go.Maps.sameKey_ne (fun e => h (kyL_inj e)), decide_eq_false h]
theorem add_map (L : List ByteArray) (x : ByteArray) : Go.Maps.addKey (L.map kyL) (kyL x) = (addB L x).map kyL := by
  unfold Go.Maps.addKey addB
  rw [kin_any]
  cases h : hasB L x with
  | true => rw [if_pos rfl, if_pos rfl]
  | false =>
    rw [if_neg Bool.false_ne_true, if_neg Bool.false_ne_true, List.map_append]
    rfl
theorem fold_map : ∀ (N L : List ByteArray), (N.map kyL).foldl Go.Maps.addKey (L.map kyL) = (N.foldl addB L).map kyL
  | [], L => rfl
  | x :: N, L => by
    rw [List.map_cons, List.foldl_cons, List.foldl_cons, add_map]
    exact fold_map N (addB L x)
theorem fold_le : ∀ (N L : List ByteArray), (N.foldl addB L).length ≤ L.length + N.length
  | [], L => Nat.le_refl _
  | x :: N, L => by
    rw [List.foldl_cons]
    have h := fold_le N (addB L x)
    have h2 : (addB L x).length ≤ L.length + 1 := by unfold addB; split <;> simp
    rw [List.length_cons]
    omega
theorem fold_full : ∀ (N L : List ByteArray), (N.foldl addB L).length = L.length + N.length ↔ N.Nodup ∧ ∀ x ∈ N, x ∉ L
  | [], L => by simp
  | x :: N, L => by
    rw [List.foldl_cons]
    have hle := fold_le N (addB L x)
    by_cases h : x ∈ L
    · have e : addB L x = L := if_pos (hasB_iff.2 h)
      rw [e] at hle ⊢
      constructor
      · intro hh
        rw [List.length_cons] at hh
        omega
      · intro hh
        exact absurd h (hh.2 x List.mem_cons_self)
    · have e : addB L x = L ++ [x] := if_neg fun hh => h (hasB_iff.1 hh)
      rw [e, show L.length + (x :: N).length = (L ++ [x]).length + N.length by simp; omega, fold_full N (L ++ [x]), List.nodup_cons]
      constructor
      · rintro ⟨h1, h2⟩
        refine ⟨⟨fun hx => h2 x hx (by simp), h1⟩, fun y hy => ?_⟩
        rcases List.mem_cons.1 hy with rfl | hy
        · exact h
        · exact fun hL => h2 y hy (by simp [hL])
      · rintro ⟨⟨h1, h2⟩, h3⟩
        refine ⟨h2, fun y hy hL => ?_⟩
        rcases List.mem_append.1 hL with hL | hL
        · exact h3 y (List.mem_cons_of_mem _ hy) hL
        · rw [List.mem_singleton] at hL
          subst hL
          exact h1 hy
/-- Two have the same name. -/
def twK (N : List ByteArray) : Bool := decide ((N.foldl addB []).length < N.length)
theorem twK_no {N : List ByteArray} : twK N = false ↔ N.Nodup := by
  have h := fold_full N []
  have hle := fold_le N []
  simp only [List.length_nil, Nat.zero_add, List.not_mem_nil, not_false_eq_true, implies_true, and_true] at h hle
  unfold twK
  rw [decide_eq_false_iff_not, ← h]
  omega
def unitV : Value := .agg #[]
theorem set_size (N : List ByteArray) : Go.Maps.size (Go.Maps.setOf (DataW.held unitV) (N.map kyL)) = (N.foldl addB []).length := by
  rw [Go.Maps.size_setOf _ _ (fun x hx => by
    obtain ⟨y, _, rfl⟩ := List.mem_map.1 hx
    exact kyL_key y)]
  have h := fold_map N []
  rw [List.map_nil] at h
  rw [h, List.length_map]
theorem set_step9 {N : List ByteArray} {k : Nat} {x : ByteArray} (h : N[k]? = some x) : (Go.Maps.setOf (DataW.held unitV) ((N.take k).map kyL)).put (kyL x) (DataW.held unitV) = Go.Maps.setOf (DataW.held unitV) ((N.take (k + 1)).map kyL) := by
  rw [← Go.Maps.setOf_snoc, List.take_add_one, h, List.map_append]
  rfl
theorem klaw_str : Go.Maps.Keyed Tryd.prog 9 := Go.Maps.string_keyed Tryd.underlying9
set_option maxRecDepth 100000 in
set_option maxHeartbeats 4000000 in
theorem twice_any (a : Option Addr) (ka : Nat) (l : List Pd) (w : World) (hF : PodLs w a l) (hl : l.length ≤ 1000000) (hs : ∀ x ∈ l, x.nm.size ≤ 300) :
    Calls Tryd.prog 16 #[.slice a l.length ka] w fun e w' => e = .returned (.bool (twK (l.map Pd.nm))) ∧ Below w.heap.size w w' := by
  obtain ⟨n, hn⟩ : ∃ n, l.length = n := ⟨_, rfl⟩
  obtain ⟨N, hN⟩ : ∃ N, l.map Pd.nm = N := ⟨_, rfl⟩
  have HN := Lib.hid hn
  have HM := Lib.hid hN
  have HL := Lib.hid (show N.length = n by rw [← hN, List.length_map, hn])
  have HF := Lib.hid hF
  have Hs := Lib.hid hs
  rw [hn] at hl ⊢
  rw [hN]
  have hmm := @run_makeMap Tryd.prog
  have HZ := Lib.hid (World.ownsMap_made w Tryd.prog 9 heldR)
  clear hn hN hF hs
  go_enter Tryd.func16, Tryd.ntmps16
  go_wp2
  go_loopw [9] (fun vi wr => ∃ k : Nat, k ≤ n ∧ vi = .int .i64 k ∧ wr.ownsMap Tryd.prog 9 heldR w.heap.size k (Go.Maps.setOf (DataW.held unitV) ((N.take k).map kyL)) ∧ Below w.heap.size w wr) (fun vi _ => n - (intOf vi).toNat)
  case atStart => exact ⟨0, Nat.zero_le _, rfl, HZ.out, by (repeat' (first | with_reducible exact Below.refl _ _ | with_reducible assumption | with_reducible refine Below.drew ?_ | with_reducible refine below_drewN' ?_ _ | with_reducible refine Below.alloc ?_ ?_ _ | with_reducible refine Below.setCell ?_ ?_ _ | with_reducible refine below_step (by assumption) ?_ ?_ | omega | (simp; done) | (simp; omega)))⟩
  case round =>
    obtain ⟨k, hk, rfl, hM, hB⟩ := hrel
    have hbz := hB.size
    have HB := Lib.hid hB
    have HMp := Lib.hid hM
    clear HZ
    by_cases hlt : k < n
    · obtain ⟨p, hp⟩ := mem_at (l := l) (k := k) (by rw [HN.out]; exact hlt)
      obtain ⟨b, o, rfl, hb, hc⟩ := (HF.out.mono hB) (by rw [HN.out]; omega)
      have hsz := Hs.out p (List.mem_of_getElem? hp)
      have HRq := Lib.hid (show wr.rangeAt b (o + k * 20) [.string (p).nm, .int .i64 (p).n0, .int .i64 (p).n1, .int .i64 (p).n2, .int .i64 (p).n3, .int .i64 (p).n4, .slice (p).la (p).labs.length (p).lk, .slice (p).sa (p).sels.length (p).sk, .slice (p).ta (p).trms.length (p).tk, .slice (p).ba (p).bers.length (p).bk, .slice (p).pa (p).prts.length (p).pk, .slice (p).aa (p).aprs.length (p).ak, .bool (p).wd, .slice (p).da (p).spds.length (p).dk, .int .i64 (p).sw, .int .i64 (p).rk, .string (p).ow, .bool (p).dm, .bool (p).pn, .bool (p).lc] from fun j v hj => by
        have hj20 : j < 20 := (List.getElem?_eq_some_iff.1 hj).1
        rw [hc k p hp j hj20]
        exact hj)
      have hmN := pdnm_at hp
      rw [HM.out] at hmN
      obtain ⟨Z, hZ⟩ : ∃ Z, wr.heap.size = Z := ⟨_, rfl⟩
      obtain ⟨w5, hw5⟩ : ∃ V, V = wr.alloc (.cells #[.string (p).nm, .int .i64 (p).n0, .int .i64 (p).n1, .int .i64 (p).n2, .int .i64 (p).n3, .int .i64 (p).n4, .slice (p).la (p).labs.length (p).lk, .slice (p).sa (p).sels.length (p).sk, .slice (p).ta (p).trms.length (p).tk, .slice (p).ba (p).bers.length (p).bk, .slice (p).pa (p).prts.length (p).pk, .slice (p).aa (p).aprs.length (p).ak, .bool (p).wd, .slice (p).da (p).spds.length (p).dk, .int .i64 (p).sw, .int .i64 (p).rk, .string (p).ow, .bool (p).dm, .bool (p).pn, .bool (p).lc] 37) := ⟨_, rfl⟩
      have HZ5 := Lib.hid (show Box Z (prow p) w5 by rw [hw5, ← hZ]; exact Box.new wr (prow p) 37)
      have HB5 := Lib.hid (show Below w.heap.size w w5 by rw [hw5]; exact hB.alloc hbz _)
      have HM5 := Lib.hid (show w5.ownsMap Tryd.prog 9 heldR w.heap.size k (Go.Maps.setOf (DataW.held unitV) ((N.take k).map kyL)) by rw [hw5]; exact hM.alloc _)
      have z0 : w5.cell? ⟨Z, 0, none⟩ = some (.string p.nm) := HZ5.out.cell 0
      have hlz := HZ5.out.lt
      have HP := Lib.hid (kprow_one p)
      clear hc hp hB hM
      go_upto_region 5 with (first
        | ((with_reducible refine at_load (ty := 37) ?_); refine load_cells rfl 37 (.tmp 11) rfl b (o + k * 20) rfl [.string (p).nm, .int .i64 (p).n0, .int .i64 (p).n1, .int .i64 (p).n2, .int .i64 (p).n3, .int .i64 (p).n4, .slice (p).la (p).labs.length (p).lk, .slice (p).sa (p).sels.length (p).sk, .slice (p).ta (p).trms.length (p).tk, .slice (p).ba (p).bers.length (p).bk, .slice (p).pa (p).prts.length (p).pk, .slice (p).aa (p).aprs.length (p).ak, .bool (p).wd, .slice (p).da (p).spds.length (p).dk, .int .i64 (p).sw, .int .i64 (p).rk, .string (p).ow, .bool (p).dm, .bool (p).pn, .bool (p).lc] _ Tryd.underlying37 rfl (by kernel_rfl) HRq.out ?_)
        | ((with_reducible refine at_store (ty := 37) ?_); refine store_new rfl 37 (.tmp 5) (.tmp 12) rfl _ _ (by first | rfl | (show _ = Value.pointer (some ⟨wr.heap.size, 0, none⟩); rw [hZ]; rfl)) rfl (by kernel_rfl) rfl (List.all_eq_true.2 HP.out) rfl ?_))
      (try rw [hZ])
      rw [← hw5]
      clear hw5 hZ HMp HB
      obtain ⟨y, hy⟩ : ∃ y, p.nm = y := ⟨_, rfl⟩
      rw [hy] at z0 hmN hsz
      have HNx := Lib.hid (set_step9 hmN)
      clear hy HP HRq hmN
      go_wp2_with (at_mapUpdate; refine wpList_mapUpdate_own _ rfl _ _ _ 55 rfl 9 56 klaw_str Tryd.underlying55 heldR w.heap.size k _ rfl HM5.out (by unfold maxLen; omega) (.string y) unitV (kyL y) rfl rfl (Go.WideMaps.keyOf_string_mk Tryd.underlying9 (by unfold maxLen; omega)) (DataW.held unitV) [] rfl ?_; intro w7 hm7 hg7; have HM7 := Lib.hid hm7; have HG7 := Lib.hid hg7; clear hm7 hg7)
      go_roundw
      case rel => exact ⟨k + 1, by omega, by go_num, by rw [← HNx.out]; exact HM7.out, HB5.out.grown HG7.out HB5.out.size (fun q hq => by cases hq; exact Nat.le_refl _)⟩
      case measure => simp [intOf]; omega
    · obtain rfl : k = n := by omega
      have hM9 : wr.ownsMap Tryd.prog 9 heldR w.heap.size k (Go.Maps.setOf (DataW.held unitV) (N.map kyL)) := by rwa [List.take_of_length_le (by rw [HL.out]; exact Nat.le_refl _)] at hM
      have HM9 := Lib.hid hM9
      have ht : decide ((N.foldl addB []).length < N.length) = twK N := rfl
      rw [HL.out] at ht
      have hss := set_size N
      obtain ⟨c, hcc⟩ : ∃ c, (N.foldl addB []).length = c := ⟨_, rfl⟩
      rw [hcc] at ht hss
      have hcl : c ≤ k := by have := fold_le N []; rw [hcc, HL.out] at this; simpa using this
      have HT := Lib.hid ht
      have HSs := Lib.hid hss
      clear hM hM9 ht hss hcc HMp
      have hlen : (Builtin.len_ #[55] 3 #[.map (some w.heap.size)]).run Tryd.prog wr = .ok (.int .i64 (c : Nat)) wr := by
        have h9 := HM9.out.len (t := 55) Tryd.underlying55 3
        rwa [HSs.out] at h9
      go_wp2
      go_ret
      exact ⟨by rw [← HT.out]; simp, HB.out⟩
/-- Both are right, and equivalent. -/
def alikeK (a b : Pd) : Bool := decide (keyP a ≠ emp) && decide (keyP a = keyP b)
set_option maxRecDepth 100000 in
set_option maxHeartbeats 4000000 in
theorem alike_any (p r : Pd) (w : World) (hp : PodAt w p) (hr : PodAt w r) (hpL : lightP p = true) (hrL : lightP r = true) (hWT : WT w) (hT : Tab10 w) :
    Calls Tryd.prog 8 #[.agg (prow p).toArray, .agg (prow r).toArray] w fun e w' => e = .returned (.bool (alikeK p r)) ∧ Below w.heap.size w w' := by
  have HKp := Lib.hid (fun V (hV : Below w.heap.size w V) => show Calls Tryd.prog 15 #[.agg #[.string (p).nm, .int .i64 (p).n0, .int .i64 (p).n1, .int .i64 (p).n2, .int .i64 (p).n3, .int .i64 (p).n4, .slice (p).la (p).labs.length (p).lk, .slice (p).sa (p).sels.length (p).sk, .slice (p).ta (p).trms.length (p).tk, .slice (p).ba (p).bers.length (p).bk, .slice (p).pa (p).prts.length (p).pk, .slice (p).aa (p).aprs.length (p).ak, .bool (p).wd, .slice (p).da (p).spds.length (p).dk, .int .i64 (p).sw, .int .i64 (p).rk, .string (p).ow, .bool (p).dm, .bool (p).pn, .bool (p).lc]] V fun e w' => e = .returned (.string (keyP p)) ∧ Below V.heap.size V w' from skey_any p V (hp.mono hV) hpL (hWT.mono hV hWT.sz) (hT.mono hV))
  have HKr := Lib.hid (fun V (hV : Below w.heap.size w V) => show Calls Tryd.prog 15 #[.agg #[.string (r).nm, .int .i64 (r).n0, .int .i64 (r).n1, .int .i64 (r).n2, .int .i64 (r).n3, .int .i64 (r).n4, .slice (r).la (r).labs.length (r).lk, .slice (r).sa (r).sels.length (r).sk, .slice (r).ta (r).trms.length (r).tk, .slice (r).ba (r).bers.length (r).bk, .slice (r).pa (r).prts.length (r).pk, .slice (r).aa (r).aprs.length (r).ak, .bool (r).wd, .slice (r).da (r).spds.length (r).dk, .int .i64 (r).sw, .int .i64 (r).rk, .string (r).ow, .bool (r).dm, .bool (r).pn, .bool (r).lc]] V fun e w' => e = .returned (.string (keyP r)) ∧ Below V.heap.size V w' from skey_any r V (hr.mono hV) hrL (hWT.mono hV hWT.sz) (hT.mono hV))
  obtain ⟨W1, hW1⟩ : ∃ W, W = w.alloc (.cells #[.string (p).nm, .int .i64 (p).n0, .int .i64 (p).n1, .int .i64 (p).n2, .int .i64 (p).n3, .int .i64 (p).n4, .slice (p).la (p).labs.length (p).lk, .slice (p).sa (p).sels.length (p).sk, .slice (p).ta (p).trms.length (p).tk, .slice (p).ba (p).bers.length (p).bk, .slice (p).pa (p).prts.length (p).pk, .slice (p).aa (p).aprs.length (p).ak, .bool (p).wd, .slice (p).da (p).spds.length (p).dk, .int .i64 (p).sw, .int .i64 (p).rk, .string (p).ow, .bool (p).dm, .bool (p).pn, .bool (p).lc] 37) := ⟨_, rfl⟩
  have hX1 : Blk W1 w.heap.size 37 (prow p) := by rw [hW1]; exact Blk.new w 37 (prow p)
  have hB1 : Below w.heap.size w W1 := by rw [hW1]; exact (Below.refl _ _).alloc (Nat.le_refl _) _
  obtain ⟨W2, hW2⟩ : ∃ W, W = W1.alloc (.cells #[.string (r).nm, .int .i64 (r).n0, .int .i64 (r).n1, .int .i64 (r).n2, .int .i64 (r).n3, .int .i64 (r).n4, .slice (r).la (r).labs.length (r).lk, .slice (r).sa (r).sels.length (r).sk, .slice (r).ta (r).trms.length (r).tk, .slice (r).ba (r).bers.length (r).bk, .slice (r).pa (r).prts.length (r).pk, .slice (r).aa (r).aprs.length (r).ak, .bool (r).wd, .slice (r).da (r).spds.length (r).dk, .int .i64 (r).sw, .int .i64 (r).rk, .string (r).ow, .bool (r).dm, .bool (r).pn, .bool (r).lc] 37) := ⟨_, rfl⟩
  have hb2 : Below W1.heap.size W1 W2 := by rw [hW2]; exact (Below.refl _ _).alloc (Nat.le_refl _) _
  have HX1 := Lib.hid (hX1.below hb2)
  have HX2 := Lib.hid (show Blk W2 W1.heap.size 37 (prow r) by rw [hW2]; exact Blk.new W1 37 (prow r))
  have HB2 := Lib.hid (hB1.trans (hb2.mono hB1.size))
  have HR1 := Lib.hid (show W2.rangeAt w.heap.size 0 [.string (p).nm, .int .i64 (p).n0, .int .i64 (p).n1, .int .i64 (p).n2, .int .i64 (p).n3, .int .i64 (p).n4, .slice (p).la (p).labs.length (p).lk, .slice (p).sa (p).sels.length (p).sk, .slice (p).ta (p).trms.length (p).tk, .slice (p).ba (p).bers.length (p).bk, .slice (p).pa (p).prts.length (p).pk, .slice (p).aa (p).aprs.length (p).ak, .bool (p).wd, .slice (p).da (p).spds.length (p).dk, .int .i64 (p).sw, .int .i64 (p).rk, .string (p).ow, .bool (p).dm, .bool (p).pn, .bool (p).lc] from blk_range HX1.out)
  rw [show W1.heap.size = w.heap.size + 1 by rw [hW1]; exact World.size_alloc _ _] at HX2
  show Calls Tryd.prog 8 #[.agg #[.string (p).nm, .int .i64 (p).n0, .int .i64 (p).n1, .int .i64 (p).n2, .int .i64 (p).n3, .int .i64 (p).n4, .slice (p).la (p).labs.length (p).lk, .slice (p).sa (p).sels.length (p).sk, .slice (p).ta (p).trms.length (p).tk, .slice (p).ba (p).bers.length (p).bk, .slice (p).pa (p).prts.length (p).pk, .slice (p).aa (p).aprs.length (p).ak, .bool (p).wd, .slice (p).da (p).spds.length (p).dk, .int .i64 (p).sw, .int .i64 (p).rk, .string (p).ow, .bool (p).dm, .bool (p).pn, .bool (p).lc], .agg #[.string (r).nm, .int .i64 (r).n0, .int .i64 (r).n1, .int .i64 (r).n2, .int .i64 (r).n3, .int .i64 (r).n4, .slice (r).la (r).labs.length (r).lk, .slice (r).sa (r).sels.length (r).sk, .slice (r).ta (r).trms.length (r).tk, .slice (r).ba (r).bers.length (r).bk, .slice (r).pa (r).prts.length (r).pk, .slice (r).aa (r).aprs.length (r).ak, .bool (r).wd, .slice (r).da (r).spds.length (r).dk, .int .i64 (r).sw, .int .i64 (r).rk, .string (r).ow, .bool (r).dm, .bool (r).pn, .bool (r).lc]] w _
  unfold alikeK
  obtain ⟨kp, hkp⟩ : ∃ x, keyP p = x := ⟨_, rfl⟩
  obtain ⟨kr, hkr⟩ : ∃ x, keyP r = x := ⟨_, rfl⟩
  rw [hkp] at HKp ⊢
  rw [hkr] at HKr ⊢
  clear hX1 hB1 hb2 hp hr hpL hrL hkp hkr
  go_enter Tryd.func8, Tryd.ntmps8
  go_upto_region 1 with (fail)
  (try rw [← hW1])
  (try rw [← hW2])
  clear hW1 hW2
  go_upto_region 2 with (first
    | ((with_reducible refine at_load (ty := 37) ?_); refine load_cells rfl 37 (.tmp 2) rfl w.heap.size 0 rfl [.string (p).nm, .int .i64 (p).n0, .int .i64 (p).n1, .int .i64 (p).n2, .int .i64 (p).n3, .int .i64 (p).n4, .slice (p).la (p).labs.length (p).lk, .slice (p).sa (p).sels.length (p).sk, .slice (p).ta (p).trms.length (p).tk, .slice (p).ba (p).bers.length (p).bk, .slice (p).pa (p).prts.length (p).pk, .slice (p).aa (p).aprs.length (p).ak, .bool (p).wd, .slice (p).da (p).spds.length (p).dk, .int .i64 (p).sw, .int .i64 (p).rk, .string (p).ow, .bool (p).dm, .bool (p).pn, .bool (p).lc] _ Tryd.underlying37 rfl (by kernel_rfl) HR1.out ?_)
    | (go_at_call 15; (with_reducible refine (HKp.out _ HB2.out).mono ?_); rintro e w3 ⟨rfl, hb⟩; have HB3 := Lib.hid (HB2.out.trans (hb.mono HB2.out.size)); have HX3 := Lib.hid (HX2.out.below hb); clear hb))
  have HR3 := Lib.hid (show w3.rangeAt (w.heap.size + 1) 0 [.string (r).nm, .int .i64 (r).n0, .int .i64 (r).n1, .int .i64 (r).n2, .int .i64 (r).n3, .int .i64 (r).n4, .slice (r).la (r).labs.length (r).lk, .slice (r).sa (r).sels.length (r).sk, .slice (r).ta (r).trms.length (r).tk, .slice (r).ba (r).bers.length (r).bk, .slice (r).pa (r).prts.length (r).pk, .slice (r).aa (r).aprs.length (r).ak, .bool (r).wd, .slice (r).da (r).spds.length (r).dk, .int .i64 (r).sw, .int .i64 (r).rk, .string (r).ow, .bool (r).dm, .bool (r).pn, .bool (r).lc] from blk_range HX3.out)
  by_cases h1 : kp = emp
  · have q1 : kp.toList.isEmpty = true := by rw [h1]; simp [emp]
    have H1 := Lib.hid h1
    clear h1
    go_wp2_with (fail)
    go_ret
    exact ⟨by rw [decide_eq_false (fun h => h H1.out), Bool.false_and]; rfl, HB3.out⟩
  · have q1 : kp.toList.isEmpty = false := by
      rw [← Bool.not_eq_true]
      intro hh
      refine h1 ((str_inj _ _).1 ?_)
      have h3 : kp.toList = [] := by simpa using hh
      rw [h3]
      simp [emp]
    have H1 := Lib.hid h1
    clear h1
    by_cases h2 : kp = kr
    · have q2 := kstr_yes h2
      have H2 := Lib.hid h2
      clear h2
      go_wp2_with (first
        | ((with_reducible refine at_load (ty := 37) ?_); refine load_cells rfl 37 (.tmp 3) rfl (w.heap.size + 1) 0 rfl [.string (r).nm, .int .i64 (r).n0, .int .i64 (r).n1, .int .i64 (r).n2, .int .i64 (r).n3, .int .i64 (r).n4, .slice (r).la (r).labs.length (r).lk, .slice (r).sa (r).sels.length (r).sk, .slice (r).ta (r).trms.length (r).tk, .slice (r).ba (r).bers.length (r).bk, .slice (r).pa (r).prts.length (r).pk, .slice (r).aa (r).aprs.length (r).ak, .bool (r).wd, .slice (r).da (r).spds.length (r).dk, .int .i64 (r).sw, .int .i64 (r).rk, .string (r).ow, .bool (r).dm, .bool (r).pn, .bool (r).lc] _ Tryd.underlying37 rfl (by kernel_rfl) HR3.out ?_)
        | (go_at_call 15; (with_reducible refine (HKr.out _ HB3.out).mono ?_); rintro e w4 ⟨rfl, hb⟩; have HB4 := Lib.hid (HB3.out.trans (hb.mono HB3.out.size)); clear hb))
      go_ret
      exact ⟨by rw [decide_eq_true H1.out, decide_eq_true H2.out]; rfl, HB4.out⟩
    · have q2 := kstr_no h2
      have H2 := Lib.hid h2
      clear h2
      go_wp2_with (first
        | ((with_reducible refine at_load (ty := 37) ?_); refine load_cells rfl 37 (.tmp 3) rfl (w.heap.size + 1) 0 rfl [.string (r).nm, .int .i64 (r).n0, .int .i64 (r).n1, .int .i64 (r).n2, .int .i64 (r).n3, .int .i64 (r).n4, .slice (r).la (r).labs.length (r).lk, .slice (r).sa (r).sels.length (r).sk, .slice (r).ta (r).trms.length (r).tk, .slice (r).ba (r).bers.length (r).bk, .slice (r).pa (r).prts.length (r).pk, .slice (r).aa (r).aprs.length (r).ak, .bool (r).wd, .slice (r).da (r).spds.length (r).dk, .int .i64 (r).sw, .int .i64 (r).rk, .string (r).ow, .bool (r).dm, .bool (r).pn, .bool (r).lc] _ Tryd.underlying37 rfl (by kernel_rfl) HR3.out ?_)
        | (go_at_call 15; (with_reducible refine (HKr.out _ HB3.out).mono ?_); rintro e w4 ⟨rfl, hb⟩; have HB4 := Lib.hid (HB3.out.trans (hb.mono HB3.out.size)); clear hb))
      go_ret
      exact ⟨by rw [decide_eq_false H2.out, Bool.and_false]; rfl, HB4.out⟩
end Go.Proofs.YtccplljbljpjpaaDoor
