/-
  Names: the names that are noted, in the order of their times.
-/
import Derived.Test.YteccmjbgedmfhaaTmShf
import Derived.Test.YteccmjbgedmfhaaTxtL
namespace Go.Proofs.Yteccmjbgedmfhaa
open Go.RowKit Go.Sort
set_option linter.unusedVariables false
set_option linter.unusedSimpArgs false

def ltT (T : ByteArray → Option Int) (x y : ByteArray) : Prop := ordT T x < ordT T y ∨ (ordT T x = ordT T y ∧ bl x y = true)
theorem tcf_neg (T : ByteArray → Option Int) (x y : ByteArray) : tcf T x y < 0 ↔ ltT T x y := by
  unfold tcf orI cmpI cmpS ltT
  by_cases h1 : ordT T x < ordT T y
  · simp [h1]
  · by_cases h2 : ordT T y < ordT T x
    · simp [h1, h2]
      intro h3
      omega
    · have h3 : ordT T x = ordT T y := by omega
      by_cases h4 : bl x y = true
      · simp [h3, h4]
      · by_cases h5 : bl y x = true <;> simp [h3, h4, h5]
theorem ltT_irrefl (T : ByteArray → Option Int) (x : ByteArray) : ¬ ltT T x x := by
  rintro (h | ⟨_, h⟩)
  · omega
  · rw [bl_self] at h; cases h
theorem ltT_trans {T : ByteArray → Option Int} {x y z : ByteArray} (h1 : ltT T x y) (h2 : ltT T y z) : ltT T x z := by
  rcases h1 with h1 | ⟨e1, h1⟩ <;> rcases h2 with h2 | ⟨e2, h2⟩
  · exact .inl (by omega)
  · exact .inl (by omega)
  · exact .inl (by omega)
  · exact .inr ⟨by omega, bl_tr h1 h2⟩
theorem ltT_tri {T : ByteArray → Option Int} {x y : ByteArray} (h1 : ¬ ltT T x y) (h2 : ¬ ltT T y x) : x = y := by
  unfold ltT at h1 h2
  have h3 : ordT T x = ordT T y := by
    by_cases a : ordT T x < ordT T y
    · exact absurd (.inl a) h1
    · by_cases b : ordT T y < ordT T x
      · exact absurd (.inl b) h2
      · omega
  refine bl_ext ?_ ?_
  · cases h : bl x y with
    | false => rfl
    | true => exact absurd (.inr ⟨h3, h⟩) h1
  · cases h : bl y x with
    | false => rfl
    | true => exact absurd (.inr ⟨h3.symm, h⟩) h2
theorem ltG (T : ByteArray → Option Int) (x y : ByteArray) : ltOf (tcf T) x y = true ↔ ltT T x y := by
  unfold ltOf
  rw [decide_eq_true_iff]
  exact tcf_neg T x y
theorem MapIs.drewN {P : Program} {k : TypeId} {w : World} {b n : Nat} {f : ByteArray → Option Value} (h : MapIs P k w b n f) (q : Nat) : MapIs P k (w.drewN q) b n f := h.same rfl
theorem sort_only {α : Type} [Inhabited α] (enc : α → Value) (w : World) (g n : Nat) (d : Array α) (os : Array Obj) : Only [g] w (sortWorld enc w g 0 n d os) := by
  unfold sortWorld Go.Sort.grow Go.Sort.putRow Go.Sort.mapBlock Go.Sort.ahead
  refine ⟨rfl, rfl, rfl, ?_, fun k hk hs => ?_⟩
  · simp
  · have hne : g ≠ k := fun e => hs (by simp [e])
    simp [Array.getElem?_append_left, hk]
    rw [Array.getElem_modify, if_neg hne]

abbrev Key := { s : ByteArray // s.size ≤ maxLen }
instance : Inhabited Key := ⟨⟨⟨#[]⟩, by decide⟩⟩
def keyV (x : Key) : Value := .string x.1
theorem keyV_one : OneCell keyV := fun _ => rfl
def kcf (T : ByteArray → Option Int) (a b : Key) : Int := tcf T a.1 b.1
theorem ltK (T : ByteArray → Option Int) (x y : Key) : ltOf (kcf T) x y = true ↔ ltT T x.1 y.1 := ltG T x.1 y.1
theorem swoK (T : ByteArray → Option Int) : Go.Sort.SWO (ltOf (kcf T)) where
  irrefl x := by
    cases h : ltOf (kcf T) x x with
    | false => rfl
    | true => exact absurd ((ltK T x x).1 h) (ltT_irrefl T _)
  trans x y z h1 h2 := (ltK T x z).2 (ltT_trans ((ltK T x y).1 h1) ((ltK T y z).1 h2))
  ntrans x y z h1 h2 := by
    have n1 : ¬ ltT T x.1 y.1 := fun h => by rw [(ltK T x y).2 h] at h1; cases h1
    have n2 : ¬ ltT T y.1 z.1 := fun h => by rw [(ltK T y z).2 h] at h2; cases h2
    cases h : ltOf (kcf T) x z with
    | false => rfl
    | true =>
      exfalso
      have h3 := (ltK T x z).1 h
      by_cases h4 : ltT T y.1 x.1
      · exact n2 (ltT_trans h4 h3)
      · rw [ltT_tri n1 h4] at h3
        exact n2 h3

theorem tsort_any (bx b m base g cap : Nat) (T : ByteArray → Option Int) (n : Nat) (L : List Key) (w : World) (h : TB w b m T n) (hx : w.cell? ⟨bx, 0, none⟩ = some (.pointer (some ⟨b, 0, none⟩)))
    (hbx : bx < base) (hb : b < base) (hm : m < base) (hL : 0 < L.length) (hz : L.length ≤ 1000000000) (hr : w.ownsRow base 9 1 (.slice (some ⟨g, 0, none⟩) L.length cap) L.length (L.map keyV)) :
    Calls Try.prog 41 #[.slice (some ⟨g, 0, none⟩) L.length cap, .func (.func 32) #[] #[.pointer (some ⟨bx, 0, none⟩)]] w fun e w' => e = .returned (.tuple #[]) ∧ ∃ L' : List Key, L'.Perm L ∧ L'.Pairwise (fun x y => ¬ ltT T y.1 x.1) ∧
      w'.ownsRow base 9 1 (.slice (some ⟨g, 0, none⟩) L.length cap) L.length (L'.map keyV) ∧ Only [g] w w' := by
  obtain ⟨g', cap', e1, hbg, hgl, _, _, _, hH⟩ := Go.Lib.holds_of_ownsRow hr (by simp)
  injection e1 with e1 _ e3
  injection e1 with e1
  injection e1 with e1
  subst e1 e3
  have eg : ∀ args w, (callFunc 32 args).run Try.prog w = .ok (.enter 32 args) w := enters_of Try.func32 (by kernel_rfl) rfl
  have hc : CmpLays1 Try.prog 32 #[.pointer (some ⟨bx, 0, none⟩)] keyV (kcf T) g 0 L.toArray.size w := fun q os dk _ x y => by
    have ho := sort_only keyV w g q dk os
    have hT := h.only ho (by simp; omega) (by simp; omega)
    have hxl : bx < w.heap.size := by omega
    have hx' : (sortWorld keyV w g 0 q dk os).cell? ⟨bx, 0, none⟩ = some (.pointer (some ⟨b, 0, none⟩)) := by
      rw [← hx]
      exact World.cell?_of_block (ho.block bx hxl (by simp; omega))
    exact tclos_any bx b m T n x.1 y.1 x.2 y.2 _ hT hx'
  have hS := Any.slices_SortFunc (P := Try.prog) (ρ := sortL_ren) sortL keyV keyV_one (kcf T) (swoK T) 32 #[.pointer (some ⟨bx, 0, none⟩)] g 0 cap L.toArray w eg hc hH hgl (by simp; omega)
  have hz' : L.toArray.size = L.length := List.size_toArray
  rw [hz'] at hS
  refine (show Calls Try.prog 41 #[.slice (some ⟨g, 0, none⟩) L.length cap, .func (.func 32) #[] #[.pointer (some ⟨bx, 0, none⟩)]] w _ from hS).mono ?_
  rintro e w' ⟨he, d', q, os, hp, hs, rfl⟩
  obtain ⟨p1, _, p2⟩ := hp
  rw [hz'] at p1
  have x1 : d'.extract 0 L.length = d' := by rw [← p1]; exact Array.extract_size
  have x2 : L.toArray.extract 0 L.length = L.toArray := by rw [← hz']; exact Array.extract_size
  rw [x1, x2] at p2
  refine ⟨he, d'.toList, p2, ?_, ?_, sort_only keyV w g q d' os⟩
  · rw [List.pairwise_iff_getElem]
    intro i j hi hj hij hlt
    have hi' : i < d'.size := by simpa using hi
    have hj' : j < d'.size := by simpa using hj
    have := hs i j (Nat.zero_le _) hij (by omega)
    rw [getElem!_pos d' i hi', getElem!_pos d' j hj'] at this
    rw [(ltK T _ _).2 (by simpa using hlt)] at this
    cases this
  · have h1 := Go.Lib.ownsRow_putRow (q := q) (k := L.length) (ys := d'.toList) hr (by simpa using p1) (Nat.le_refl _)
    rw [List.take_of_length_le (by simp; omega)] at h1
    refine ⟨h1.1, ?_⟩
    rcases h1.2 with hh | ⟨g2, cap2, cur, hv, h2, h3, h4⟩
    · exact .inl hh
    · refine .inr ⟨g2, cap2, cur, hv, h2, ?_, h4⟩
      have hl := (Array.getElem?_eq_some_iff.1 h3).1
      show (Go.Sort.grow (Go.Sort.putRow keyV (Go.Sort.ahead w q) g 0 d') os).heap[g2]? = _
      have e : d'.toList.toArray = d' := Array.toArray_toList
      rw [e] at h3 hl
      rw [Go.Sort.heap_grow_old _ _ hl]
      exact h3

/-- The names in the order of their times. -/
structure Ordered (T : ByteArray → Option Int) (l : List ByteArray) : Prop where
  nd : l.Nodup
  mem : ∀ s, s ∈ l ↔ (T s).isSome = true
  le : ∀ s ∈ l, s.size ≤ maxLen
  asc : l.Pairwise fun x y => ltT T x y
theorem asc_of {T : ByteArray → Option Int} : ∀ {l : List ByteArray}, l.Nodup → l.Pairwise (fun x y => ¬ ltT T y x) → l.Pairwise fun x y => ltT T x y := by
  intro l hn hp
  refine List.Pairwise.imp_of_mem ?_ (List.pairwise_and_iff.2 ⟨hn, hp⟩)
  intro x y _ _ ⟨h1, h2⟩
  by_cases h : ltT T x y
  · exact h
  · exact absurd (ltT_tri h h2) h1

theorem keys_of : ∀ l : List ByteArray, (∀ s ∈ l, s.size ≤ maxLen) → ∃ L : List Key, L.map (·.1) = l
  | [], _ => ⟨[], rfl⟩
  | s :: l, h => by
    obtain ⟨L, hL⟩ := keys_of l fun x hx => h x (List.mem_cons_of_mem _ hx)
    exact ⟨⟨s, h s List.mem_cons_self⟩ :: L, by simp [hL]⟩
theorem own_base {w : World} {B B' : Nat} {e : TypeId} {k n : Nat} {v : Value} {xs : List Value} (h : w.ownsRow B e k v n xs) (hB : B' ≤ B) : w.ownsRow B' e k v n xs := by
  refine ⟨h.1, ?_⟩
  rcases h.2 with h | ⟨g, cap, cur, e1, h2, h3⟩
  · exact .inl h
  · exact .inr ⟨g, cap, cur, e1, Nat.le_trans hB h2, h3⟩
/-- What Names hands back. -/
structure NamesP (w : World) (T : ByteArray → Option Int) (n : Nat) (v : Value) (l : List ByteArray) (w' : World) : Prop where
  ord : Ordered T l
  own : w'.ownsRow w.heap.size 9 1 v l.length (l.map Value.string)
  nil : v = .slice none 0 0 ↔ l = []
  len : l.length ≤ n
  below : Below w.heap.size w w'

set_option maxRecDepth 100000 in
set_option maxHeartbeats 4000000 in
theorem sorted_any (bx Bm b m : Nat) (T : ByteArray → Option Int) (n : Nat) (w : World) (h : TB w b m T n) (hn : n ≤ 100000000) (hx : w.cell? ⟨bx, 0, none⟩ = some (.pointer (some ⟨b, 0, none⟩))) (hm : w.cell? ⟨Bm, 0, none⟩ = some (.map (some m))) :
    Calls Try.prog 30 #[.func (.func 42) #[] #[.pointer (some ⟨Bm, 0, none⟩)], .func (.func 32) #[] #[.pointer (some ⟨bx, 0, none⟩)]] w fun e w' => ∃ v l, e = .returned v ∧ NamesP w T n v l w' := by
  have hb : b < w.heap.size := h.row.lt
  have hmm : m < w.heap.size := h.mp.lt
  have hbx : bx < w.heap.size := World.block_lt_of_cell? _ _ hx
  have hBm : Bm < w.heap.size := World.block_lt_of_cell? _ _ hm
  have Hh := Lib.hid h
  have Hx := Lib.hid hx
  have HC0 := Lib.hid (coll_any Bm m n (fun s => (T s).map iv) w hm hBm h.mp (by omega))
  clear h hx hm
  go_enter Try.func30, Try.ntmps30
  go_wp2_with (go_at_call 40; (with_reducible refine HC0.out.mono ?_); rintro e w2 ⟨v, l, rfl, hC⟩)
  have hbW : Below w.heap.size w w2 := hC.below
  have hmem : ∀ s, s ∈ l ↔ (T s).isSome = true := fun s => by simpa using hC.mem s
  by_cases hl : l = []
  · obtain rfl := hC.nil.2 hl
    subst hl
    have HC := Lib.hid hC
    clear hC
    go_wp2_with (go_at_call 41; refine (AnyF.slices_SortFunc_none (P := Try.prog) (ρ := sortL_ren) { sortL with } none 0 _ _).mono ?_; rintro e w3 ⟨rfl, rfl⟩)
    go_ret
    exact ⟨_, [], rfl, ⟨HC.out.nd, hmem, HC.out.le, List.Pairwise.nil⟩, HC.out.own, by simp, Nat.zero_le _, hbW⟩
  · obtain ⟨L, hL⟩ := keys_of l hC.le
    have hown := hC.own
    have hv : v ≠ .slice none 0 0 := fun e => hl (hC.nil.1 e)
    obtain ⟨g, cap, rfl⟩ : ∃ g cap, v = .slice (some ⟨g, 0, none⟩) l.length cap := by
      rcases hown.2 with ⟨e, _⟩ | ⟨g, cap, _, e, _⟩
      · exact absurd e hv
      · exact ⟨g, cap, e⟩
    have hlen : l.length = L.length := by rw [← hL, List.length_map]
    have hcells : l.map Value.string = L.map keyV := by rw [← hL, List.map_map]; rfl
    have hsz : L.length ≤ 1000000000 := by have := hC.len; omega
    have h0 : 0 < L.length := by rw [← hlen]; exact List.length_pos_iff.2 hl
    rw [hlen, hcells] at hown
    have hT := (Hh.out.below hbW)
    have hG := tsort_any bx b m w.heap.size g cap T n L w2 hT (by rw [hbW.cell (p := ⟨bx, 0, none⟩) hbx]; exact Hx.out) hbx hb hmm h0 hsz hown
    rw [hlen]
    have HC := Lib.hid hC
    have HG := Lib.hid hG
    clear hC hG hown
    go_wp2_with (go_at_call 41; refine HG.out.mono ?_; rintro e w3 ⟨rfl, L', hp, ha, ho, hw⟩)
    go_ret
    have hlen' : L'.length = L.length := hp.length_eq
    have hpm : (L'.map (·.1)).Perm l := by rw [← hL]; exact hp.map _
    have hnd := (hpm.nodup_iff).2 HC.out.nd
    refine ⟨_, L'.map (·.1), rfl, ⟨hnd, fun s => by rw [hpm.mem_iff]; exact hmem s, fun s hs => HC.out.le s (hpm.mem_iff.1 hs), asc_of hnd (List.pairwise_map.2 ha)⟩, ?_, ?_, by rw [hpm.length_eq]; exact HC.out.len, ?_⟩
    · have e1 : (L'.map (·.1)).map Value.string = L'.map keyV := by rw [List.map_map]; rfl
      rw [e1, List.length_map, hlen']
      exact ho
    · constructor
      · intro e; simp at e
      · intro e
        have : L'.length = 0 := by simpa using congrArg List.length e
        omega
    · exact hw.below hbW hbW.size (fun k hk => by
        obtain rfl : k = g := by simpa using hk
        rcases HC.out.own.2 with ⟨e, _⟩ | ⟨g', _, _, e, h2, _⟩
        · cases e
        · injection e with e
          injection e with e
          injection e with e
          subst e
          exact h2)

set_option maxRecDepth 100000 in
set_option maxHeartbeats 4000000 in
theorem names_any (b m : Nat) (T : ByteArray → Option Int) (n : Nat) (w : World) (h : TB w b m T n) (hn : n ≤ 100000000) :
    Calls Try.prog 17 #[.pointer (some ⟨b, 0, none⟩)] w fun e w' => ∃ v l, e = .returned v ∧ NamesP w T n v l w' := by
  obtain ⟨c0, c1⟩ := h.cells
  have hb : b < w.heap.size := h.row.lt
  have Hh := Lib.hid h
  clear h
  obtain ⟨W, hW⟩ : ∃ W, W = (w.alloc (.cells #[.pointer (some ⟨b, 0, none⟩)] 23)).alloc (.cells #[.map (some m)] 44) := ⟨_, rfl⟩
  have hbW : Below w.heap.size w W := by rw [hW]; (repeat' (first | with_reducible exact Below.refl _ _ | with_reducible assumption | with_reducible refine Below.drew ?_ | with_reducible refine below_drewN' ?_ _ | with_reducible refine Below.alloc ?_ ?_ _ | with_reducible refine Below.setCell ?_ ?_ _ | with_reducible refine below_step (by assumption) ?_ ?_ | omega | (simp; done) | (simp; omega)))
  have hS := sorted_any w.heap.size (w.heap.size + 1) b m T n W (Hh.out.below hbW) hn (by rw [hW, World.cell?_alloc_past _ _ _ (by simp)]; exact World.cell?_alloc_at _ _ _ _ rfl) (by rw [hW]; exact World.cell?_alloc_at _ _ _ _ (by simp))
  rw [hW] at hS
  have HS := Lib.hid hS
  have HbW := Lib.hid hbW
  have HW := Lib.hid hW
  clear hS hW hbW
  go_enter Try.func17, Try.ntmps17
  go_wp2_with (first
    | (go_at_call 23; (with_reducible refine (made_yes b _ ((Hh.out.below (by (repeat' (first | with_reducible exact Below.refl _ _ | with_reducible assumption | with_reducible refine Below.drew ?_ | with_reducible refine below_drewN' ?_ _ | with_reducible refine Below.alloc ?_ ?_ _ | with_reducible refine Below.setCell ?_ ?_ _ | with_reducible refine below_step (by assumption) ?_ ?_ | omega | (simp; done) | (simp; omega))))).cells.1)).mono ?_); rintro e w1 ⟨rfl, rfl⟩)
    | (go_at_call 31; (with_reducible refine (keys_any m _).mono ?_); rintro e w1 ⟨rfl, rfl⟩; try simp only [World.size_alloc])
    | (go_at_call 30; (with_reducible refine HS.out.mono ?_); rintro e w2 ⟨v, l, rfl, hC⟩))
  go_ret
  refine ⟨v, l, rfl, hC.ord, own_base hC.own (by simp; omega), hC.nil, hC.len, ?_⟩
  exact (show Below w.heap.size w _ by (repeat' (first | with_reducible exact Below.refl _ _ | with_reducible assumption | with_reducible refine Below.drew ?_ | with_reducible refine below_drewN' ?_ _ | with_reducible refine Below.alloc ?_ ?_ _ | with_reducible refine Below.setCell ?_ ?_ _ | with_reducible refine below_step (by assumption) ?_ ?_ | omega | (simp; done) | (simp; omega)))).trans (hC.below.mono (by simp; omega))
end Go.Proofs.Yteccmjbgedmfhaa
