/-
  Groups.
-/
import Derived.Test.YtedombidblhmeaaBkCol
import Derived.Test.YtedombidblhmeaaBk3
namespace Go.Proofs.Ytedombidblhmeaa
open Go.RowKit Go.Sort
set_option linter.unusedVariables false

abbrev ordE (E : ByteArray → Option En) (s : ByteArray) : Int := numE (E s)
def gcf (E : ByteArray → Option En) (a b : ByteArray) : Int := cmpI (ordE E a) (ordE E b)
theorem ltG (E : ByteArray → Option En) (x y : ByteArray) : ltOf (gcf E) x y = decide (ordE E x < ordE E y) := by
  unfold ltOf gcf cmpI
  by_cases h1 : ordE E x < ordE E y
  · simp [h1]
  · by_cases h2 : ordE E y < ordE E x <;> simp [h1, h2]
theorem swoG (E : ByteArray → Option En) : Go.Sort.SWO (ltOf (gcf E)) where
  irrefl x := by rw [ltG]; simp
  trans x y z h1 h2 := by rw [ltG] at *; simp at *; omega
  ntrans x y z h1 h2 := by rw [ltG] at *; simp at *; omega
theorem MapIs.drewN {P : Program} {k : TypeId} {w : World} {b n : Nat} {f : ByteArray → Option Value} (h : MapIs P k w b n f) (q : Nat) : MapIs P k (w.drewN q) b n f := h.same rfl

set_option maxRecDepth 100000 in
set_option maxHeartbeats 4000000 in
theorem gclos_any (bx b m : Nat) (fi mo re : Int) (E : ByteArray → Option En) (cr : Int) (n : Nat) (s u : ByteArray) (hs : s.size ≤ maxLen) (hu : u.size ≤ maxLen) (W : World) (h : TB W b m fi mo re E cr n) (hx : W.cell? ⟨bx, 0, none⟩ = some (.pointer (some ⟨b, 0, none⟩))) :
    Calls Try.prog 33 (#[.string s, .string u] ++ #[.pointer (some ⟨bx, 0, none⟩)]) W fun e w' => e = .returned (.int .i64 (gcf E s u)) ∧ ∃ q, w' = W.drewN q := by
  obtain ⟨c0, c1, c2, c3, c4, c5, f5⟩ := h.cells
  have k1 := fun q => ((h.mp).drewN q).look law_str Try.underlying49 Try.underlying9 (zero_ent _) hs
  have k2 := fun q => ((h.mp).drewN q).look law_str Try.underlying49 Try.underlying9 (zero_ent _) hu
  rw [ent_get] at k1 k2
  have i2 := fun x y z W => (fld 0 x y z W).2.2
  clear h f5
  go_enter Try.func33, Try.ntmps33
  go_wp2
  go_quiet ((go_at_call 34; exact (cmp_any _ _ _).mono fun e v h => ⟨h.1, _, h.2⟩))
  go_wp2
  go_ret
  exact ⟨rfl, _, rfl⟩

theorem sort_only {α : Type} [Inhabited α] (enc : α → Value) (w : World) (g n : Nat) (d : Array α) (os : Array Obj) : Only [g] w (sortWorld enc w g 0 n d os) := by
  unfold sortWorld Go.Sort.grow Go.Sort.putRow Go.Sort.mapBlock Go.Sort.ahead
  refine ⟨rfl, rfl, rfl, ?_, fun k hk hs => ?_⟩
  · simp
  · have hne : g ≠ k := fun e => hs (by simp [e])
    simp [Array.getElem?_append_left, hk]
    rw [Array.getElem_modify, if_neg hne]

abbrev Key := { s : ByteArray // s.size ≤ maxLen }
instance : Inhabited Key := ⟨⟨⟨#[]⟩, by decide⟩⟩
def keyV (x : Key) : Value := .string x.1
theorem keyV_one : OneCell keyV := fun _ => rfl
def kcf (E : ByteArray → Option En) (a b : Key) : Int := gcf E a.1 b.1
theorem ltK (E : ByteArray → Option En) (x y : Key) : ltOf (kcf E) x y = decide (ordE E x.1 < ordE E y.1) := ltG E x.1 y.1
theorem swoK (E : ByteArray → Option En) : Go.Sort.SWO (ltOf (kcf E)) where
  irrefl x := by rw [ltK]; simp
  trans x y z h1 h2 := by rw [ltK] at *; simp at *; omega
  ntrans x y z h1 h2 := by rw [ltK] at *; simp at *; omega

theorem gsort_any (bx b m base g cap : Nat) (fi mo re : Int) (E : ByteArray → Option En) (cr : Int) (n : Nat) (L : List Key) (w : World) (h : TB w b m fi mo re E cr n) (hx : w.cell? ⟨bx, 0, none⟩ = some (.pointer (some ⟨b, 0, none⟩)))
    (hbx : bx < base) (hb : b < base) (hm : m < base) (hL : 0 < L.length) (hz : L.length ≤ 1000000000) (hr : w.ownsRow base 9 1 (.slice (some ⟨g, 0, none⟩) L.length cap) L.length (L.map keyV)) :
    Calls Try.prog 32 #[.slice (some ⟨g, 0, none⟩) L.length cap, .func (.func 33) #[] #[.pointer (some ⟨bx, 0, none⟩)]] w fun e w' => e = .returned (.tuple #[]) ∧ ∃ L' : List Key, L'.Perm L ∧ L'.Pairwise (fun x y => ordE E x.1 ≤ ordE E y.1) ∧
      w'.ownsRow base 9 1 (.slice (some ⟨g, 0, none⟩) L.length cap) L.length (L'.map keyV) ∧ Only [g] w w' := by
  obtain ⟨g', cap', e1, hbg, hgl, _, _, _, hH⟩ := Go.Lib.holds_of_ownsRow hr (by simp)
  injection e1 with e1 _ e3
  injection e1 with e1
  injection e1 with e1
  subst e1 e3
  have eg : ∀ args w, (callFunc 33 args).run Try.prog w = .ok (.enter 33 args) w := enters_of Try.func33 (by kernel_rfl) rfl
  have hc : CmpLays1 Try.prog 33 #[.pointer (some ⟨bx, 0, none⟩)] keyV (kcf E) g 0 L.toArray.size w := fun q os dk _ x y => by
    have ho := sort_only keyV w g q dk os
    have hT := h.only ho (by simp; omega) (by simp; omega)
    have hxl : bx < w.heap.size := by omega
    have hx' : (sortWorld keyV w g 0 q dk os).cell? ⟨bx, 0, none⟩ = some (.pointer (some ⟨b, 0, none⟩)) := by
      rw [← hx]
      exact World.cell?_of_block (ho.block bx hxl (by simp; omega))
    exact (gclos_any bx b m fi mo re E cr n x.1 y.1 x.2 y.2 _ hT hx').mono fun e w' ⟨he, k, hk⟩ => ⟨he, k, #[], by rw [hk, Go.Sort.grow_empty]⟩
  have hS := Any.slices_SortFunc (P := Try.prog) (ρ := sortL_ren) sortL keyV keyV_one (kcf E) (swoK E) 33 #[.pointer (some ⟨bx, 0, none⟩)] g 0 cap L.toArray w eg hc hH hgl (by simp; omega)
  have hz' : L.toArray.size = L.length := List.size_toArray
  rw [hz'] at hS
  refine (show Calls Try.prog 32 #[.slice (some ⟨g, 0, none⟩) L.length cap, .func (.func 33) #[] #[.pointer (some ⟨bx, 0, none⟩)]] w _ from hS).mono ?_
  rintro e w' ⟨he, d', q, os, hp, hs, rfl⟩
  obtain ⟨p1, _, p2⟩ := hp
  rw [hz'] at p1
  have x1 : d'.extract 0 L.length = d' := by rw [← p1]; exact Array.extract_size
  have x2 : L.toArray.extract 0 L.length = L.toArray := by rw [← hz']; exact Array.extract_size
  rw [x1, x2] at p2
  refine ⟨he, d'.toList, p2, ?_, ?_, sort_only keyV w g q d' os⟩
  · rw [List.pairwise_iff_getElem]
    intro i j hi hj hij
    have hi' : i < d'.size := by simpa using hi
    have hj' : j < d'.size := by simpa using hj
    have := hs i j (Nat.zero_le _) hij (by omega)
    rw [ltK, getElem!_pos d' i hi', getElem!_pos d' j hj'] at this
    simp only [decide_eq_false_iff_not, Int.not_lt] at this
    simpa using this
  · have h1 := Go.Lib.ownsRow_putRow (q := q) (k := L.length) (ys := d'.toList) hr (by simpa using p1) (Nat.le_refl _)
    rw [List.take_of_length_le (by simp; omega)] at h1
    refine ⟨h1.1, ?_⟩
    rcases h1.2 with hh | ⟨g2, cap2, cur, hv, h2, h3, h4⟩
    · exact .inl hh
    · refine .inr ⟨g2, cap2, cur, hv, h2, ?_, h4⟩
      have hl := (Array.getElem?_eq_some_iff.1 h3).1
      show (Go.Sort.grow (Go.Sort.putRow keyV (Go.Sort.ahead w q) g 0 d') os).heap[g2]? = _
      have e : d'.toList.toArray = d' := Array.toArray_toList
      rw [e] at h3 hl
      rw [Go.Sort.heap_grow_old _ _ hl]
      exact h3

/-- The groups in the order of their numbers. -/
structure Ordered (E : ByteArray → Option En) (l : List ByteArray) : Prop where
  nd : l.Nodup
  mem : ∀ s, s ∈ l ↔ (E s).isSome = true
  le : ∀ s ∈ l, s.size ≤ maxLen
  asc : l.Pairwise fun x y => ordE E x ≤ ordE E y

theorem keys_of : ∀ l : List ByteArray, (∀ s ∈ l, s.size ≤ maxLen) → ∃ L : List Key, L.map (·.1) = l
  | [], _ => ⟨[], rfl⟩
  | s :: l, h => by
    obtain ⟨L, hL⟩ := keys_of l fun x hx => h x (List.mem_cons_of_mem _ hx)
    exact ⟨⟨s, h s List.mem_cons_self⟩ :: L, by simp [hL]⟩
theorem own_base {w : World} {B B' : Nat} {e : TypeId} {k n : Nat} {v : Value} {xs : List Value} (h : w.ownsRow B e k v n xs) (hB : B' ≤ B) : w.ownsRow B' e k v n xs := by
  refine ⟨h.1, ?_⟩
  rcases h.2 with h | ⟨g, cap, cur, e1, h2, h3⟩
  · exact .inl h
  · exact .inr ⟨g, cap, cur, e1, Nat.le_trans hB h2, h3⟩

set_option maxRecDepth 100000 in
set_option maxHeartbeats 4000000 in
theorem groups_any (b m : Nat) (fi mo re : Int) (E : ByteArray → Option En) (cr : Int) (n : Nat) (w : World) (h : TB w b m fi mo re E cr n) (hn : n ≤ 100000000) :
    Calls Try.prog 22 #[.pointer (some ⟨b, 0, none⟩)] w fun e w' => ∃ v l, e = .returned v ∧ Ordered E l ∧ w'.ownsRow w.heap.size 9 1 v l.length (l.map Value.string) ∧ (v = .slice none 0 0 ↔ l = []) ∧ Below w.heap.size w w' := by
  obtain ⟨c0, c1, c2, c3, c4, c5, f5⟩ := h.cells
  have hb : b < w.heap.size := h.row.lt
  have hm : m < w.heap.size := h.mp.lt
  have Hh := Lib.hid h
  clear h f5
  go_enter Try.func22, Try.ntmps22
  go_wp2_with (first
    | (go_at_call 26; (with_reducible refine (made_yes b _ ((Hh.out.below (by (repeat' (first | with_reducible exact Below.refl _ _ | with_reducible assumption | with_reducible refine Below.drew ?_ | with_reducible refine below_drewN' ?_ _ | with_reducible refine Below.alloc ?_ ?_ _ | with_reducible refine Below.setCell ?_ ?_ _ | with_reducible refine below_step (by assumption) ?_ ?_ | omega | (simp; done) | (simp; omega))))).cells.1)).mono ?_); rintro e w1 ⟨rfl, rfl⟩)
    | (go_at_call 31; (with_reducible refine (keys_any m _).mono ?_); rintro e w1 ⟨rfl, rfl⟩)
    | (go_at_call 30; (with_reducible refine (coll_any (w.heap.size + 1) m n (fun s => (E s).map ent) _ (World.cell?_alloc_at _ _ _ _ (by simp)) (by simp) (Hh.out.mp.below (by (repeat' (first | with_reducible exact Below.refl _ _ | with_reducible assumption | with_reducible refine Below.drew ?_ | with_reducible refine below_drewN' ?_ _ | with_reducible refine Below.alloc ?_ ?_ _ | with_reducible refine Below.setCell ?_ ?_ _ | with_reducible refine below_step (by assumption) ?_ ?_ | omega | (simp; done) | (simp; omega))))) (by omega)).mono ?_); rintro e w2 ⟨v, l, rfl, hC⟩))
  have hbW : Below w.heap.size w w2 := (show Below w.heap.size w _ by (repeat' (first | with_reducible exact Below.refl _ _ | with_reducible assumption | with_reducible refine Below.drew ?_ | with_reducible refine below_drewN' ?_ _ | with_reducible refine Below.alloc ?_ ?_ _ | with_reducible refine Below.setCell ?_ ?_ _ | with_reducible refine below_step (by assumption) ?_ ?_ | omega | (simp; done) | (simp; omega)))).trans (hC.below.mono (by simp; omega))
  by_cases hl : l = []
  · obtain rfl := hC.nil.2 hl
    subst hl
    have HC := Lib.hid hC
    clear hC
    go_wp2_with (go_at_call 32; refine (AnyF.slices_SortFunc_none (P := Try.prog) (ρ := sortL_ren) { sortL with } none 0 _ _).mono ?_; rintro e w3 ⟨rfl, rfl⟩)
    go_ret
    exact ⟨_, [], rfl, ⟨HC.out.nd, fun s => by simpa using HC.out.mem s, HC.out.le, List.Pairwise.nil⟩, own_base HC.out.own (by simp; omega), by simp, hbW⟩
  · obtain ⟨L, hL⟩ := keys_of l hC.le
    have hown := own_base hC.own (B' := w.heap.size + 1) (by simp)
    have hv : v ≠ .slice none 0 0 := fun e => hl (hC.nil.1 e)
    obtain ⟨g, cap, rfl⟩ : ∃ g cap, v = .slice (some ⟨g, 0, none⟩) l.length cap := by
      rcases hown.2 with ⟨e, _⟩ | ⟨g, cap, _, e, _⟩
      · exact absurd e hv
      · exact ⟨g, cap, e⟩
    have hlen : l.length = L.length := by rw [← hL, List.length_map]
    have hcells : l.map Value.string = L.map keyV := by rw [← hL, List.map_map]; rfl
    have hsz : L.length ≤ 1000000000 := by have := hC.len; omega
    have h0 : 0 < L.length := by rw [← hlen]; exact List.length_pos_iff.2 hl
    rw [hlen, hcells] at hown
    have hT := (Hh.out.below hbW)
    have hG := gsort_any w.heap.size b m (w.heap.size + 1) g cap fi mo re E cr n L w2 hT (by rw [hC.below.cell (p := ⟨w.heap.size, 0, none⟩) (by simp; omega), World.cell?_alloc_past _ _ _ (by simp)]; exact World.cell?_alloc_at _ _ _ _ rfl) (by omega) (by omega) (by omega) h0 hsz hown
    rw [hlen]
    have HC := Lib.hid hC
    have HG := Lib.hid hG
    clear hC hG hown
    go_wp2_with (go_at_call 32; refine HG.out.mono ?_; rintro e w3 ⟨rfl, L', hp, ha, ho, hw⟩)
    go_ret
    have hlen' : L'.length = L.length := hp.length_eq
    have hpm : (L'.map (·.1)).Perm l := by rw [← hL]; exact hp.map _
    refine ⟨_, L'.map (·.1), rfl, ⟨(hpm.nodup_iff).2 HC.out.nd, fun s => by rw [hpm.mem_iff]; simpa using HC.out.mem s, fun s hs => HC.out.le s (hpm.mem_iff.1 hs), List.pairwise_map.2 ha⟩, ?_, ?_, ?_⟩
    · have e1 : (L'.map (·.1)).map Value.string = L'.map keyV := by rw [List.map_map]; rfl
      rw [e1, List.length_map, hlen']
      exact own_base ho (by omega)
    · constructor
      · intro e; simp at e
      · intro e
        have : L'.length = 0 := by simpa using congrArg List.length e
        omega
    · exact hw.below hbW (by have := hbW.size; omega) (fun k hk => by
        obtain rfl : k = g := by simpa using hk
        rcases HC.out.own.2 with ⟨e, _⟩ | ⟨g', _, _, e, h2, _⟩
        · cases e
        · injection e with e
          injection e with e
          injection e with e
          subst e
          simp at h2
          omega)
end Go.Proofs.Ytedombidblhmeaa
