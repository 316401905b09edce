/-
  Ripe: what is so for long.
-/
import Derived.Test.YteccmjbgedmfhaaTmGrp
namespace Go.Proofs.Yteccmjbgedmfhaa
open Go.RowKit Go.Sort
set_option linter.unusedVariables false
set_option linter.unusedSimpArgs false

def ripeB (T : ByteArray → Option Int) (now len : Int) (s : ByteArray) : Bool := !decide (now - ordT T s < len)
set_option maxRecDepth 100000 in
theorem pclos_any (bn bt bl b m : Nat) (now len : Int) (T : ByteArray → Option Int) (n : Nat) (s : ByteArray) (hs : s.size ≤ maxLen) (h0 : 0 ≤ now) (h1 : now ≤ 1099511627776) (W : World) (h : TB W b m T n)
    (hn : W.cell? ⟨bn, 0, none⟩ = some (.int .i64 now)) (ht : W.cell? ⟨bt, 0, none⟩ = some (.pointer (some ⟨b, 0, none⟩))) (hl : W.cell? ⟨bl, 0, none⟩ = some (.int .i64 len)) :
    FnGives Try.prog 37 #[.pointer (some ⟨bn, 0, none⟩), .pointer (some ⟨bt, 0, none⟩), .pointer (some ⟨bl, 0, none⟩)] #[.string s] (.bool (decide (now - ordT T s < len))) W := by
  unfold FnGives
  obtain ⟨c0, c1⟩ := h.cells
  have k1 := fun q => ((h.mp).drewN q).look law_str Try.underlying44 Try.underlying9 (zero_int _) hs
  rw [int_get] at k1
  have hr : 0 ≤ ordT T s ∧ ordT T s ≤ 1099511627776 := by
    unfold ordT
    cases hT : T s with
    | none => exact ⟨Int.le_refl _, by decide⟩
    | some x => exact h.ok s x hT
  have hw : IntKind.i64.wrap (now - ordT T s) = now - ordT T s := wrap_in (by omega) (by omega)
  clear h hr
  go_enter Try.func37, Try.ntmps37
  go_wp2
  go_quiet (fail)
  go_wp2
  go_ret
  exact ⟨rfl, _, rfl⟩

theorem delete_none (fv : Value) (w : World) : Calls Try.prog 36 #[.slice none 0 0, fv] w fun e w' => e = .returned (.slice none 0 0) ∧ w' = w := by
  go_enter Try.func36, Try.ntmps36
  go_wp2_with (go_at_call 45; refine (AnyE.slices_IndexFunc_empty (P := Try.prog) (ρ := delL_ren) { delL with } none 0 fv _).mono ?_; rintro e w3 ⟨rfl, rfl⟩)
  go_ret
  exact ⟨rfl, rfl⟩
theorem isL_only {l : List ByteArray} {v : Value} {w w' : World} {S : List Nat} (h : IsL scs 1 l v w) (ho : Only S w w') (hn : ∀ a x y, v = .slice (some a) x y → a.block ∉ S) : IsL scs 1 l v w' := by
  obtain ⟨a, k, rfl, h1, h2⟩ := h
  refine ⟨a, k, rfl, h1, fun hp => ?_⟩
  obtain ⟨b, off, rfl, hb, hc⟩ := h2 hp
  refine ⟨b, off, rfl, Nat.lt_of_lt_of_le hb ho.size, fun i x hx r hr => ?_⟩
  rw [← hc i x hx r hr]
  exact World.cell?_of_block (ho.block b hb (hn _ _ _ rfl))
/-- What Ripe hands back. -/
structure RipeP (w : World) (T : ByteArray → Option Int) (n : Nat) (now len : Int) (v : Value) (r : List ByteArray) (w' : World) : Prop where
  from_ : ∃ l, Ordered T l ∧ l.length ≤ n ∧ r = l.filter (ripeB T now len)
  rows : IsL scs 1 r v w'
  new : ∀ a x y, v = .slice (some a) x y → w.heap.size ≤ a.block
  below : Below w.heap.size w w'
theorem keyv_get {L : List Key} {i : Nat} {x : ByteArray} (h : (L.map (·.1))[i]? = some x) (hi : i < L.toArray.size) : keyV (L.toArray[i]!) = .string x := by
  rw [getElem!_pos L.toArray i hi]
  rw [List.getElem?_map] at h
  have hi' : i < L.length := by simpa using hi
  rw [List.getElem?_eq_getElem hi'] at h
  have : L[i].1 = x := by simpa using h
  show Value.string (L.toArray[i]).1 = _
  rw [← this]
  simp

set_option maxRecDepth 100000 in
set_option maxHeartbeats 4000000 in
theorem delete_any (bn bt bl b m base g cap : Nat) (now len : Int) (T : ByteArray → Option Int) (n : Nat) (L : List Key) (w : World) (h : TB w b m T n) (h0 : 0 ≤ now) (h1 : now ≤ 1099511627776)
    (hn : w.cell? ⟨bn, 0, none⟩ = some (.int .i64 now)) (ht : w.cell? ⟨bt, 0, none⟩ = some (.pointer (some ⟨b, 0, none⟩))) (hl : w.cell? ⟨bl, 0, none⟩ = some (.int .i64 len))
    (hbn : bn < base) (hbt : bt < base) (hbl : bl < base) (hb : b < base) (hm : m < base) (hz : L.length ≤ 1000000000) (hr : w.ownsRow base 9 1 (.slice (some ⟨g, 0, none⟩) L.length cap) L.length (L.map keyV)) :
    Calls Try.prog 36 #[.slice (some ⟨g, 0, none⟩) L.length cap, .func (.func 37) #[] #[.pointer (some ⟨bn, 0, none⟩), .pointer (some ⟨bt, 0, none⟩), .pointer (some ⟨bl, 0, none⟩)]] w fun e w' => ∃ v, e = .returned v ∧ IsL scs 1 ((L.map (·.1)).filter (ripeB T now len)) v w' ∧ (∀ a x y, v = .slice (some a) x y → a.block = g) ∧ Only [g] w w' := by
  obtain ⟨g', cap', e1, hbg, hgl, hnc, _, _, hH⟩ := Go.Lib.holds_of_ownsRow hr (by simp)
  injection e1 with e1 _ e3
  injection e1 with e1
  injection e1 with e1
  subst e1 e3
  have eg : ∀ args w, (callFunc 37 args).run Try.prog w = .ok (.enter 37 args) w := enters_of Try.func37 (by kernel_rfl) rfl
  have hz' : L.toArray.size = L.length := List.size_toArray
  have hcell : ∀ (V : World) (c : Nat) (u : Value), c < base → Only [g] w V → w.cell? ⟨c, 0, none⟩ = some u → V.cell? ⟨c, 0, none⟩ = some u := fun V c u hc ho hu => by
    rw [← hu]
    exact World.cell?_of_block (ho.block c (by omega) (by simp; omega))
  have hat : ∀ V, Only [g] w V → ∀ x : Key, FnGives Try.prog 37 #[.pointer (some ⟨bn, 0, none⟩), .pointer (some ⟨bt, 0, none⟩), .pointer (some ⟨bl, 0, none⟩)] #[keyV x] (.bool (decide (now - ordT T x.1 < len))) V := fun V ho x =>
    pclos_any bn bt bl b m now len T n x.1 x.2 h0 h1 V (h.only ho (by simp; omega) (by simp; omega)) (hcell V bn _ hbn ho hn) (hcell V bt _ hbt ho ht) (hcell V bl _ hbl ho hl)
  have hD := AnyE.slices_DeleteFunc (P := Try.prog) (ρ := delL_ren) delL keyV keyV_one (fun x => decide (now - ordT T x.1 < len)) 37 #[.pointer (some ⟨bn, 0, none⟩), .pointer (some ⟨bt, 0, none⟩), .pointer (some ⟨bl, 0, none⟩)] eg ⟨⟨#[]⟩, by decide⟩ (fun w => by kernel_rfl) g 0 cap L.toArray w
    (fun V x hb => hat V (Only.of_below hb) x) (fun k os dk x _ => hat _ (sort_only keyV w g k dk os) x) hH (by rw [hz']; omega) (by rw [hz']; omega)
  rw [hz'] at hD
  refine (show Calls Try.prog 36 #[.slice (some ⟨g, 0, none⟩) L.length cap, .func (.func 37) #[] #[.pointer (some ⟨bn, 0, none⟩), .pointer (some ⟨bt, 0, none⟩), .pointer (some ⟨bl, 0, none⟩)]] w _ from hD).mono ?_
  rintro e w' ⟨rfl, q, rfl⟩
  have hfl : (L.filter fun x : Key => !decide (now - ordT T x.1 < len)).map (·.1) = (L.map (·.1)).filter (ripeB T now len) := by
    rw [List.filter_map]
    rfl
  have hlen : ((L.map (·.1)).filter (ripeB T now len)).length = (L.filter fun x : Key => !decide (now - ordT T x.1 < len)).length := by rw [← hfl, List.length_map]
  have hle : (L.filter fun x : Key => !decide (now - ordT T x.1 < len)).length ≤ L.length := List.length_filter_le _ _
  refine ⟨_, rfl, ⟨some ⟨g, 0, none⟩, cap, by rw [hlen], (fun e => by cases e), fun hp => ⟨g, 0, rfl, by simpa using hgl, fun i x hx r hr => ?_⟩⟩, fun a x y e => (by injection e with e; injection e with e; rw [← e]), ?_⟩
  · obtain rfl : r = 0 := by omega
    have hi : i < (L.filter fun x : Key => !decide (now - ordT T x.1 < len)).length := by rw [← hlen]; exact lt_at hx
    have hszd : (((L.filter fun x : Key => !decide (now - ordT T x.1 < len)) ++ List.replicate (L.length - (L.filter fun x : Key => !decide (now - ordT T x.1 < len)).length) (⟨⟨#[]⟩, by decide⟩ : Key)).toArray).size = L.toArray.size := by
      simp
      omega
    have hP := Go.Sort.holds_putRow keyV (Sort.ahead w q) g 0 L.toArray ((L.filter fun x : Key => !decide (now - ordT T x.1 < len)) ++ List.replicate (L.length - (L.filter fun x : Key => !decide (now - ordT T x.1 < len)).length) (⟨⟨#[]⟩, by decide⟩ : Key)).toArray (holds_ahead keyV w q g 0 L.toArray hH) hszd
    have h3 := (hP i (by rw [hszd, hz']; omega)).1
    rw [show 0 + i * 1 + 0 = 0 + i by omega]
    refine Eq.trans h3 ?_
    rw [getElem!_pos _ i (by rw [hszd, hz']; omega)]
    have h4 : (((L.filter fun x : Key => !decide (now - ordT T x.1 < len)) ++ List.replicate (L.length - (L.filter fun x : Key => !decide (now - ordT T x.1 < len)).length) (⟨⟨#[]⟩, by decide⟩ : Key)).toArray)[i]'(by rw [hszd, hz']; omega) = (L.filter fun x : Key => !decide (now - ordT T x.1 < len))[i] := by
      simp [List.getElem_append_left hi]
    rw [h4]
    rw [← hfl, List.getElem?_map, List.getElem?_eq_getElem hi] at hx
    have h5 : ((L.filter fun x : Key => !decide (now - ordT T x.1 < len))[i]).1 = x := by simpa using hx
    show some (Value.string _) = _
    rw [h5]
    rfl
  · have := sort_only keyV w g q (((L.filter fun x : Key => !decide (now - ordT T x.1 < len)) ++ List.replicate (L.length - (L.filter fun x : Key => !decide (now - ordT T x.1 < len)).length) (⟨⟨#[]⟩, by decide⟩ : Key)).toArray) #[]
    unfold sortWorld at this
    rwa [grow_empty] at this
theorem ripe_not (b m : Nat) (T : ByteArray → Option Int) (n : Nat) (now len : Int) (w : World) (h : TB w b m T n) (ht : (timeB now && decide (0 ≤ len)) = false) :
    Calls Try.prog 19 #[.pointer (some ⟨b, 0, none⟩), .int .i64 now, .int .i64 len] w fun e w' => e = .returned (.slice none 0 0) ∧ Below w.heap.size w w' := by
  obtain ⟨c0, c1⟩ := h.cells
  have hb : b < w.heap.size := h.row.lt
  have Hh := Lib.hid h
  clear h
  cases hT : timeB now with
  | false =>
    go_enter Try.func19, Try.ntmps19
    go_wp2_with (first
      | (go_at_call 23; (with_reducible refine (made_yes b _ ((Hh.out.below (by (repeat' (first | with_reducible exact Below.refl _ _ | with_reducible assumption | with_reducible refine Below.drew ?_ | with_reducible refine below_drewN' ?_ _ | with_reducible refine Below.alloc ?_ ?_ _ | with_reducible refine Below.setCell ?_ ?_ _ | with_reducible refine below_step (by assumption) ?_ ?_ | omega | (simp; done) | (simp; omega))))).cells.1)).mono ?_); rintro e w1 ⟨rfl, rfl⟩)
      | (go_at_call 24; (with_reducible refine (time_any now _).mono ?_); rintro e w2 ⟨rfl, rfl⟩))
    go_ret
    exact ⟨rfl, by (repeat' (first | with_reducible exact Below.refl _ _ | with_reducible assumption | with_reducible refine Below.drew ?_ | with_reducible refine below_drewN' ?_ _ | with_reducible refine Below.alloc ?_ ?_ _ | with_reducible refine Below.setCell ?_ ?_ _ | with_reducible refine below_step (by assumption) ?_ ?_ | omega | (simp; done) | (simp; omega)))⟩
  | true =>
    rw [hT, Bool.true_and] at ht
    have hl : decide (len < 0) = true := decide_eq_true (by have := of_decide_eq_false ht; omega)
    clear ht
    go_enter Try.func19, Try.ntmps19
    go_wp2_with (first
      | (go_at_call 23; (with_reducible refine (made_yes b _ ((Hh.out.below (by (repeat' (first | with_reducible exact Below.refl _ _ | with_reducible assumption | with_reducible refine Below.drew ?_ | with_reducible refine below_drewN' ?_ _ | with_reducible refine Below.alloc ?_ ?_ _ | with_reducible refine Below.setCell ?_ ?_ _ | with_reducible refine below_step (by assumption) ?_ ?_ | omega | (simp; done) | (simp; omega))))).cells.1)).mono ?_); rintro e w1 ⟨rfl, rfl⟩)
      | (go_at_call 24; (with_reducible refine (time_any now _).mono ?_); rintro e w2 ⟨rfl, rfl⟩))
    go_ret
    exact ⟨rfl, by (repeat' (first | with_reducible exact Below.refl _ _ | with_reducible assumption | with_reducible refine Below.drew ?_ | with_reducible refine below_drewN' ?_ _ | with_reducible refine Below.alloc ?_ ?_ _ | with_reducible refine Below.setCell ?_ ?_ _ | with_reducible refine below_step (by assumption) ?_ ?_ | omega | (simp; done) | (simp; omega)))⟩

set_option maxRecDepth 100000 in
set_option maxHeartbeats 4000000 in
theorem ripe_yes (b m : Nat) (T : ByteArray → Option Int) (n : Nat) (now len : Int) (w : World) (h : TB w b m T n) (hn : n ≤ 100000000) (h0 : 0 ≤ now) (h1 : now ≤ 1099511627776) (hl : 0 ≤ len) :
    Calls Try.prog 19 #[.pointer (some ⟨b, 0, none⟩), .int .i64 now, .int .i64 len] w fun e w' => ∃ v r, e = .returned v ∧ RipeP w T n now len v r w' := by
  have hT : timeB now = true := decide_eq_true ⟨h0, h1⟩
  have k0 : decide (len < 0) = false := decide_eq_false (by omega)
  obtain ⟨c0, c1⟩ := h.cells
  have hb : b < w.heap.size := h.row.lt
  have hm : m < w.heap.size := h.mp.lt
  have Hh := Lib.hid h
  clear h
  obtain ⟨W, hW⟩ : ∃ W, W = ((w.alloc (.cells #[.pointer (some ⟨b, 0, none⟩)] 23)).alloc (.cells #[.int .i64 now] 3)).alloc (.cells #[.int .i64 len] 3) := ⟨_, rfl⟩
  have hbW : Below w.heap.size w W := by rw [hW]; (repeat' (first | with_reducible exact Below.refl _ _ | with_reducible assumption | with_reducible refine Below.drew ?_ | with_reducible refine below_drewN' ?_ _ | with_reducible refine Below.alloc ?_ ?_ _ | with_reducible refine Below.setCell ?_ ?_ _ | with_reducible refine below_step (by assumption) ?_ ?_ | omega | (simp; done) | (simp; omega)))
  have hWz : W.heap.size = w.heap.size + 3 := by rw [hW]; simp
  have e1 : W.cell? ⟨w.heap.size, 0, none⟩ = some (.pointer (some ⟨b, 0, none⟩)) := by rw [hW, World.cell?_alloc_past _ _ _ (by simp; omega), World.cell?_alloc_past _ _ _ (by simp)]; exact World.cell?_alloc_at _ _ _ _ rfl
  have e2 : W.cell? ⟨w.heap.size + 1, 0, none⟩ = some (.int .i64 now) := by rw [hW, World.cell?_alloc_past _ _ _ (by simp)]; exact World.cell?_alloc_at _ _ _ _ (by simp)
  have e3 : W.cell? ⟨w.heap.size + 1 + 1, 0, none⟩ = some (.int .i64 len) := by rw [hW]; exact World.cell?_alloc_at _ _ _ _ (by simp)
  have HN := Lib.hid (names_any b m T n W (Hh.out.below hbW) hn)
  have HW := Lib.hid hW
  have HbW := Lib.hid hbW
  have E1 := Lib.hid e1
  have E2 := Lib.hid e2
  have E3 := Lib.hid e3
  clear hW hbW
  have d1 : ∀ V, Below W.heap.size W V → V.cell? ⟨w.heap.size, 0, none⟩ = some (.pointer (some ⟨b, 0, none⟩)) := fun V hb => by rw [hb.cell (p := ⟨w.heap.size, 0, none⟩) (by simp; omega)]; exact E1.out
  have d2 : ∀ V, Below W.heap.size W V → V.cell? ⟨w.heap.size + 1, 0, none⟩ = some (.int .i64 now) := fun V hb => by rw [hb.cell (p := ⟨w.heap.size + 1, 0, none⟩) (by simp; omega)]; exact E2.out
  have d3 : ∀ V, Below W.heap.size W V → V.cell? ⟨w.heap.size + 1 + 1, 0, none⟩ = some (.int .i64 len) := fun V hb => by rw [hb.cell (p := ⟨w.heap.size + 1 + 1, 0, none⟩) (by simp; omega)]; exact E3.out
  have D1 := Lib.hid d1
  have D2 := Lib.hid d2
  have D3 := Lib.hid d3
  clear d1 d2 d3 e1 e2 e3
  go_enter Try.func19, Try.ntmps19
  go_wp2_with (first
    | (go_at_call 23; (with_reducible refine (made_yes b _ ((Hh.out.below (by (repeat' (first | with_reducible exact Below.refl _ _ | with_reducible assumption | with_reducible refine Below.drew ?_ | with_reducible refine below_drewN' ?_ _ | with_reducible refine Below.alloc ?_ ?_ _ | with_reducible refine Below.setCell ?_ ?_ _ | with_reducible refine below_step (by assumption) ?_ ?_ | omega | (simp; done) | (simp; omega))))).cells.1)).mono ?_); rintro e w1 ⟨rfl, rfl⟩)
    | (go_at_call 24; (with_reducible refine (time_any now _).mono ?_); rintro e w2 ⟨rfl, rfl⟩)
    | (go_at_call 17; rw [← HW.out]; (with_reducible refine HN.out.mono ?_); rintro e w3 ⟨v, l, rfl, hC⟩; have HC := Lib.hid hC; clear hC))
  by_cases hl : l = []
  · obtain rfl := HC.out.nil.2 hl
    subst hl
    go_wp2_with (go_at_call 36; (with_reducible refine (delete_none _ _).mono ?_); rintro e w4 ⟨rfl, rfl⟩)
    go_ret
    exact ⟨_, [], rfl, ⟨[], HC.out.ord, Nat.zero_le _, rfl⟩, IsL.nil, (fun a x y e => by cases e), HbW.out.trans (HC.out.below.mono HbW.out.size)⟩
  · obtain ⟨L, hL⟩ := keys_of l HC.out.ord.le
    have hown := HC.out.own
    have hv : v ≠ .slice none 0 0 := fun e => hl (HC.out.nil.1 e)
    obtain ⟨g, cap, rfl⟩ : ∃ g cap, v = .slice (some ⟨g, 0, none⟩) l.length cap := by
      rcases hown.2 with ⟨e, _⟩ | ⟨g, cap, _, e, _⟩
      · exact absurd e hv
      · exact ⟨g, cap, e⟩
    have hlen : l.length = L.length := by rw [← hL, List.length_map]
    have hcells : l.map Value.string = L.map keyV := by rw [← hL, List.map_map]; rfl
    have hsz : L.length ≤ 1000000000 := by have := HC.out.len; omega
    have hbg : W.heap.size ≤ g := by
      rcases hown.2 with ⟨e, _⟩ | ⟨g', _, _, e, h2, _⟩
      · cases e
      · injection e with e
        injection e with e
        injection e with e
        subst e
        exact h2
    rw [hlen, hcells] at hown
    have hG := delete_any (w.heap.size + 1) w.heap.size (w.heap.size + 1 + 1) b m W.heap.size g cap now len T n L w3 (Hh.out.below (HbW.out.trans (HC.out.below.mono HbW.out.size))) h0 h1 (D2.out _ HC.out.below) (D1.out _ HC.out.below) (D3.out _ HC.out.below) (by omega) (by omega) (by omega) (by omega) (by omega) hsz hown
    rw [hL] at hG
    rw [hlen]
    have HG := Lib.hid hG
    clear hG hown
    go_wp2_with (go_at_call 36; (with_reducible refine HG.out.mono ?_); rintro e w4 ⟨v2, rfl, hI, hI2, hw⟩)
    go_ret
    exact ⟨_, _, rfl, ⟨l, HC.out.ord, HC.out.len, rfl⟩, hI, (fun a x y e => by rw [hI2 a x y e]; have := HbW.out.size; omega), hw.below (HbW.out.trans (HC.out.below.mono HbW.out.size)) (by have := HC.out.below.size; omega) (fun k hk => by
      obtain rfl : k = g := by simpa using hk
      omega)⟩
end Go.Proofs.Yteccmjbgedmfhaa
