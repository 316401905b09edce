/-
  Labels and terms that came in; light ones.
-/
import Derived.Test.YtccplljbljpjpaaDoorME
import Derived.Test.YtccplljbljpjpaaDoorLabNB
namespace Go.Proofs.YtccplljbljpjpaaDoor
namespace Lb
open Go.ChangeShapes Go.WideShapes Go.ChangeAt Go.RowKit
open Go.RowKit
set_option linter.unusedSimpArgs false
set_option linter.unusedVariables false

set_option maxRecDepth 100000 in
theorem open_labs {H : Type} {enc : TypeId × Value → H} {W : World} {base : Nat} {v : Value} {d : DataW H} {p : List MemPlace}
    (hv : Value.okWide Tryd.prog W .any base 33 v) (h : DataW.Trod enc Tryd.prog W 0 (fun _ => true) true 33 v d p) :
    ∃ (a : Option Addr) (l : List Lab) (k : Nat), v = .slice a l.length k ∧ NilOk a l.length k ∧ LabL W a l ∧ l.length ≤ maxLen ∧ l.length ≤ k :=
  open_list Tryd.underlying33 Tryd.cells67 (by decide) (fun cs fuel y hl h => lab_open hl h) hv h

theorem sameL_self (l : List Lab) : sameL l l = true := decide_eq_true rfl
theorem sorted_of {l : List Lab} (h : labsB l = true) : Sorted l := by
  unfold labsB at h
  rw [Bool.and_eq_true] at h
  refine List.pairwise_iff_getElem.2 fun i j hi hj hij => ?_
  exact all_less (labsTo_le h.2 hj) (List.getElem?_eq_getElem hj) _ (by
    rw [List.mem_take_iff_getElem]
    exact ⟨i, by omega, rfl⟩)
theorem IsL.rows {l : List Lab} {a : Option Addr} {k n : Nat} {w : World} (h : IsL kcs 2 l (.slice a n k) w) : LabL w a l := by
  obtain ⟨a', k', e, _, hr⟩ := h
  simp only [Value.slice.injEq] at e
  rw [e.1]
  exact hr
theorem own_cell {w : World} {base g cap n K : Nat} {e : TypeId} {xs : List Value} (h : w.ownsRow base e K (.slice (some ⟨g, 0, none⟩) n cap) n xs) (j : Nat) (hj : j < n * K) : ∃ u, w.cell? ⟨g, j, none⟩ = some u := by
  have h1 := World.ownsRow.cellAt h j hj
  rw [List.getElem?_eq_getElem (by rw [h.1]; exact hj)] at h1
  exact ⟨_, h1⟩
def shortS (v : ByteArray) : Bool := decide (v.size ≤ 300)
def lightTm (t : Trm) : Bool := decide (t.vals.length ≤ 40 ∧ t.key.size ≤ 300) && t.vals.all shortS
theorem lightTm_ok {t : Trm} (h : lightTm t = true) : t.vals.length ≤ 40 ∧ t.key.size ≤ 300 ∧ ∀ v ∈ t.vals, v.size ≤ 300 := by
  unfold lightTm at h
  rw [Bool.and_eq_true, decide_eq_true_eq, List.all_eq_true] at h
  exact ⟨h.1.1, h.1.2, fun v hv => of_decide_eq_true (h.2 v hv)⟩
set_option maxRecDepth 100000 in
set_option maxHeartbeats 8000000 in
theorem lightterm_any (t : Trm) (w : World) (hT : TrmAt w t) :
    Calls Tryd.prog 22 #[.agg #[.string t.key, .int .i64 t.op, .slice t.va t.vals.length t.vk]] w fun e w' => e = .returned (.bool (lightTm t)) ∧ Below w.heap.size w w' := by
  obtain ⟨key, op, va, vk, vals⟩ := t
  obtain ⟨hT, hmx⟩ := hT
  dsimp only at hT hmx ⊢
  unfold maxLen at hmx
  unfold lightTm
  dsimp only
  obtain ⟨n, hln⟩ : ∃ n, vals.length = n := ⟨_, rfl⟩
  rw [hln] at hmx ⊢
  have Hln := Lib.hid hln
  have HT := Lib.hid hT
  clear hT hln
  by_cases h40 : n ≤ 40
  · by_cases hk3 : key.size ≤ 300
    · rw [decide_eq_true (⟨h40, hk3⟩ : n ≤ 40 ∧ key.size ≤ 300), Bool.true_and]
      go_enter Tryd.func22, Tryd.ntmps22
      go_wp2
      obtain ⟨W, hW⟩ : ∃ W, W = w.alloc (.cells #[.string key, .int .i64 op, .slice va n vk] 54) := ⟨_, rfl⟩
      have HW := Lib.hid (show Below w.heap.size w W by rw [hW]; (repeat' (first | with_reducible exact Below.refl _ _ | with_reducible assumption | with_reducible refine Below.drew ?_ | with_reducible refine below_drewN' ?_ _ | with_reducible refine Below.alloc ?_ ?_ _ | with_reducible refine Below.setCell ?_ ?_ _ | with_reducible refine below_step (by assumption) ?_ ?_ | omega | (simp; done) | (simp; omega))))
      have hWz : w.heap.size < W.heap.size := by rw [hW]; simp
      have x2 : W.cell? ⟨w.heap.size, 2, none⟩ = some (.slice va n vk) := by rw [hW]; simp [go_sem]
      have HTW := Lib.hid (HT.out.mono HW.out)
      rw [← hW]
      clear hW
      go_loopw [3] (fun i wr => ∃ k : Nat, k ≤ n ∧ i = .int .i64 k ∧ (vals.take k).all shortS = true ∧ Below W.heap.size W wr) (fun i _ => n - (intOf i).toNat)
      case atStart => exact ⟨0, Nat.zero_le _, rfl, rfl, by (repeat' (first | with_reducible exact Below.refl _ _ | with_reducible assumption | with_reducible refine Below.drew ?_ | with_reducible refine below_drewN' ?_ _ | with_reducible refine Below.alloc ?_ ?_ _ | with_reducible refine Below.setCell ?_ ?_ _ | with_reducible refine below_step (by assumption) ?_ ?_ | omega | (simp; done) | (simp; omega)))⟩
      case round =>
        obtain ⟨k, hk, rfl, hE, hB⟩ := hrel
        obtain ⟨hcB, hfB⟩ := bcell hB
        have hbz := hB.size
        have HE := Lib.hid hE
        have HB := Lib.hid hB
        clear hE
        have hww : w.heap.size < wr.heap.size := by omega
        by_cases hlt : k < n
        · obtain ⟨v, hx⟩ := mem_at (l := vals) (k := k) (by rw [Hln.out]; exact hlt)
          obtain ⟨b, off, rfl, hb, hc⟩ := HTW.out (by rw [Hln.out]; omega)
          have hbw : b < wr.heap.size := by omega
          have c0 := txt_cell (hc k v hx)
          rw [Nat.mul_one] at c0
          have Hx := Lib.hid hx
          clear hc hx
          by_cases hv : v.size ≤ 300
          · have Hs := Lib.hid (all_take1 (P := shortS) Hx.out (decide_eq_true hv) HE.out)
            go_wp2
            go_roundw
            case rel => exact ⟨k + 1, by omega, by go_num, Hs.out, by (repeat' (first | with_reducible exact Below.refl _ _ | with_reducible assumption | with_reducible refine Below.drew ?_ | with_reducible refine below_drewN' ?_ _ | with_reducible refine Below.alloc ?_ ?_ _ | with_reducible refine Below.setCell ?_ ?_ _ | with_reducible refine below_step (by assumption) ?_ ?_ | omega | (simp; done) | (simp; omega)))⟩
            case measure => simp [intOf]; omega
          · have Hs := Lib.hid (all_bad (P := shortS) Hx.out (decide_eq_false hv))
            have hv2 : 300 < v.size := by omega
            clear hv
            go_wp2
            go_ret
            exact ⟨by rw [Hs.out]; rfl, HW.out.trans (HB.out.mono (Nat.le_of_lt hWz))⟩
        · have Hs := Lib.hid (all_done (P := shortS) Hln.out (by rw [show n = k by omega]; exact HE.out))
          go_wp2
          go_ret
          exact ⟨by rw [Hs.out]; rfl, HW.out.trans (HB.out.mono (Nat.le_of_lt hWz))⟩
    · rw [decide_eq_false (fun h => hk3 h.2), Bool.false_and]
      have hk4 : 300 < key.size := by omega
      clear hk3
      go_enter Tryd.func22, Tryd.ntmps22
      go_wp2
      go_ret
      exact ⟨rfl, by (repeat' (first | with_reducible exact Below.refl _ _ | with_reducible assumption | with_reducible refine Below.drew ?_ | with_reducible refine below_drewN' ?_ _ | with_reducible refine Below.alloc ?_ ?_ _ | with_reducible refine Below.setCell ?_ ?_ _ | with_reducible refine below_step (by assumption) ?_ ?_ | omega | (simp; done) | (simp; omega)))⟩
  · rw [decide_eq_false (fun h => h40 h.1), Bool.false_and]
    have h41 : 40 < n := by omega
    clear h40
    go_enter Tryd.func22, Tryd.ntmps22
    go_wp2
    go_ret
    exact ⟨rfl, by (repeat' (first | with_reducible exact Below.refl _ _ | with_reducible assumption | with_reducible refine Below.drew ?_ | with_reducible refine below_drewN' ?_ _ | with_reducible refine Below.alloc ?_ ?_ _ | with_reducible refine Below.setCell ?_ ?_ _ | with_reducible refine below_step (by assumption) ?_ ?_ | omega | (simp; done) | (simp; omega)))⟩
theorem Tryd.cells54 : Tryd.prog.cellsOf 54 = 3 := by kernel_rfl
theorem Tryd.cells46 : Tryd.prog.cellsOf 46 = 1 := by kernel_rfl
set_option maxRecDepth 100000 in
theorem txt_open {H : Type} {enc : TypeId × Value → H} {W : World} {fuel : Nat} {cs : List Value} {y : DataW H × List MemPlace} (hl : cs.length = 1)
    (h : DataW.trod enc Tryd.prog W 0 (fun _ => true) true fuel 9 cs = some y) : ∃ s : ByteArray, cs = scs s := by
  obtain ⟨s0, q0, _⟩ := DataW.trod_string Tryd.underlying9 h
  exact ⟨s0, q0⟩

set_option maxRecDepth 100000 in
theorem trm_open {H : Type} {enc : TypeId × Value → H} {W : World} {fuel : Nat} {cs : List Value} {y : DataW H × List MemPlace} (hl : cs.length = 3)
    (h : DataW.trod enc Tryd.prog W 0 (fun _ => true) true fuel 54 cs = some y) : ∃ t : Trm, cs = trcs t ∧ TrmAt W t := by
  obtain ⟨zs, _, _, _, _, hlen3, hk⟩ := DataW.trod_struct Tryd.underlying54 h
  match cs, hl with
  | [c0, c1, c2], _ =>
    match zs, hlen3 with
    | [z0, z1, z2], _ =>
      have k0 := hk 0 _ rfl
      have k1 := hk 1 _ rfl
      have k2 := hk 2 _ rfl
      obtain ⟨m0, r0, _⟩ := DataW.trod_string Tryd.underlying9 k0
      obtain ⟨i1, r1, _⟩ := DataW.trod_int Tryd.underlying3 k1
      obtain ⟨a2, l2, k2', r2⟩ := Go.Joins.slice_form Tryd.underlying46 k2
      rw [r2] at k2
      obtain ⟨L, hL1, hL2, hL3⟩ := open_nested (K := 1) (enc := scs) Tryd.underlying46 Tryd.cells9 (by decide) (fun cs fuel y hl h => txt_open hl h) k2
      simp [cells_int, Tryd.cells9, Tryd.cells46] at r0 r1 r2
      subst hL1
      exact ⟨⟨m0, i1, a2, k2', L⟩, by rw [r0, r1, r2]; rfl, ⟨hL2, hL3⟩⟩

set_option maxRecDepth 100000 in
theorem open_trm {H : Type} {enc : TypeId × Value → H} {W : World} {base : Nat} {v : Value} {d : DataW H} {p : List MemPlace}
    (hv : Value.okWide Tryd.prog W .any base 54 v) (h : DataW.Trod enc Tryd.prog W 0 (fun _ => true) true 54 v d p) :
    ∃ t : Trm, v = .agg #[.string t.key, .int .i64 t.op, .slice t.va t.vals.length t.vk] ∧ TrmAt W t := by
  obtain ⟨cs, rfl, hsz⟩ := okWide_struct Tryd.underlying54 hv
  rw [Tryd.cells54] at hsz
  obtain ⟨fuel, hf⟩ := h
  obtain ⟨l⟩ := cs
  obtain ⟨t, ht, hA⟩ := trm_open (cs := l) hsz hf
  exact ⟨t, by rw [ht]; rfl, hA⟩
set_option maxRecDepth 100000 in
theorem open_trms {H : Type} {enc : TypeId × Value → H} {W : World} {base : Nat} {v : Value} {d : DataW H} {p : List MemPlace}
    (hv : Value.okWide Tryd.prog W .any base 34 v) (h : DataW.Trod enc Tryd.prog W 0 (fun _ => true) true 34 v d p) :
    ∃ (a : Option Addr) (l : List Trm) (k : Nat), v = .slice a l.length k ∧ NilOk a l.length k ∧ TrmL W a l ∧ l.length ≤ maxLen ∧ ∀ x ∈ l, TrmAt W x := by
  rcases open_rows Tryd.underlying34 Tryd.cells54 (by decide) hv h with rfl | ⟨a, cap, rfl⟩ | ⟨b, off, n, cap, rfl, hn, hnc, hcm, hb, hr⟩
  · exact ⟨none, [], 0, rfl, fun _ => ⟨rfl, rfl⟩, RowsAt.nil, Nat.zero_le _, fun x hx => by cases hx⟩
  · exact ⟨some a, [], cap, rfl, (fun h => by cases h), RowsAt.nil, Nat.zero_le _, fun x hx => by cases hx⟩
  · have hD : ∀ m, m ≤ n → ∃ l : List Trm, l.length = m ∧ (∀ i x, l[i]? = some x → ∀ j, j < 3 → W.cell? ⟨b, off + i * 3 + j, none⟩ = (trcs x)[j]?) ∧ ∀ x ∈ l, TrmAt W x := by
      intro m
      induction m with
      | zero => exact fun _ => ⟨[], rfl, fun i x hx => by simp at hx, fun x hx => by cases hx⟩
      | succ m ih =>
        intro hm
        obtain ⟨l, hl, hc, hA⟩ := ih (by omega)
        obtain ⟨cs, hcl, hcs, fuel, y, hy⟩ := hr m (by omega)
        obtain ⟨x, rfl, hx⟩ := trm_open hcl hy
        refine ⟨l ++ [x], by simp [hl], fun i z hz j hj => ?_, fun z hz => ?_⟩
        · by_cases hi : i < l.length
          · rw [List.getElem?_append_left hi] at hz
            exact hc i z hz j hj
          · rw [List.getElem?_append_right (by omega)] at hz
            have h0 : i - l.length = 0 := by
              have := (List.getElem?_eq_some_iff.1 hz).1
              simp at this
              omega
            rw [h0] at hz
            obtain rfl : x = z := by simpa using hz
            obtain rfl : i = m := by omega
            exact hcs j hj
        · rcases List.mem_append.1 hz with h | h
          · exact hA z h
          · obtain rfl : z = x := by simpa using h
            exact hx
    obtain ⟨l, hl, hc, hA⟩ := hD n (Nat.le_refl n)
    subst hl
    exact ⟨some ⟨b, off, none⟩, l, cap, rfl, (fun h => by cases h), fun _ => ⟨b, off, rfl, hb, hc⟩, Nat.le_trans hnc hcm, hA⟩
end Lb
end Go.Proofs.YtccplljbljpjpaaDoor
