/-
  The contract of clone.Groups.
-/
import Derived.Test.YtmkdfcggjlhcpaaClB
import Derived.Test.YtmkdfcggjlhcpaaMI
import Derived.Test.YtmkdfcggjlhcpaaMH
namespace Go.Proofs.Ytmkdfcggjlhcpaa
open Go.RowKit
set_option linter.unusedVariables false
set_option linter.unusedSimpArgs false

/-- A group without its addresses. -/
def nrm (g : Gp) : Gp := { g with like := { g.like with la := none, lk := 0, ta := none, tk := 0 } }
theorem nrm_gk {l m : List Gp} (h : l.map nrm = m.map nrm) : l.map gkOf = m.map gkOf := by
  have e : ∀ l : List Gp, l.map gkOf = (l.map nrm).map gkOf := fun l => by
    rw [List.map_map]
    rfl
  rw [e l, e m, h]
theorem nrm_len {l m : List Gp} (h : l.map nrm = m.map nrm) : l.length = m.length := by
  have := congrArg List.length h
  rwa [List.length_map, List.length_map] at this
theorem nrm_at {l m : List Gp} (h : l.map nrm = m.map nrm) {j : Nat} {g : Gp} (hg : l[j]? = some g) : ∃ g', m[j]? = some g' ∧ nrm g = nrm g' := by
  have h1 : (l.map nrm)[j]? = some (nrm g) := by rw [List.getElem?_map, hg]; rfl
  rw [h, List.getElem?_map] at h1
  cases h2 : m[j]? with
  | none => rw [h2] at h1; cases h1
  | some g' =>
    rw [h2] at h1
    exact ⟨g', rfl, (Option.some.inj h1).symm⟩
theorem nrm_like {g g' : Gp} (h : nrm g = nrm g') : g.like.labs = g'.like.labs ∧ g.like.tnts = g'.like.tnts ∧ g.nm = g'.nm ∧ g.mn = g'.mn ∧ g.mx = g'.mx :=
  ⟨show (nrm g).like.labs = (nrm g').like.labs by rw [h], show (nrm g).like.tnts = (nrm g').like.tnts by rw [h], show (nrm g).nm = (nrm g').nm by rw [h], show (nrm g).mn = (nrm g').mn by rw [h], show (nrm g).mx = (nrm g').mx by rw [h]⟩
theorem MO.kept {w w' : World} {base : Nat} {m : Mac} (h : MO w base m) (hb : Below w.heap.size w w') : MO w' base m := ⟨own_kept h.l hb, own_kept h.t hb⟩
theorem MO.less {w : World} {base base' : Nat} {m : Mac} (h : MO w base m) (hb : base' ≤ base) : MO w base' m := ⟨OwnL.mono h.l hb, OwnL.mono h.t hb⟩
theorem MO.only {w w' : World} {base : Nat} {m : Mac} {S : List Nat} (h : MO w base m) (ho : Only S w w') (hl : ∀ g, (Value.slice m.la m.labs.length m.lk).ownBlock = some g → g ∉ S) (ht : ∀ g, (Value.slice m.ta m.tnts.length m.tk).ownBlock = some g → g ∉ S) : MO w' base m :=
  ⟨own_same h.l fun g e => ho.block g (own_lt h.l e).2 (hl g e), own_same h.t fun g e => ho.block g (own_lt h.t e).2 (ht g e)⟩
theorem MO.grown {w w' : World} {base B n k : Nat} {m : Mac} {v : Value} {xs : List Value} (h : MO w base m) (ho : w.ownsRow B 49 k v n xs) (hg : w.grownBy w' v.ownBlock) : MO w' base m := by
  refine ⟨own_same h.l fun g e => hg.block g (own_lt h.l e).2 fun e2 => (own_ty h.l e).ne (own_ty ho e2.symm) (by decide) rfl, own_same h.t fun g e => hg.block g (own_lt h.t e).2 fun e2 => (own_ty h.t e).ne (own_ty ho e2.symm) (by decide) rfl⟩

theorem Blk.range {w : World} {b : Nat} {t : TypeId} {cs : List Value} (h : Blk w b t cs) (o : Nat) (l : List Value) (hl : (cs.drop o).take l.length = l) : w.rangeAt b o l := fun j v hv => by
  rw [h.cell]
  rw [← hl, List.getElem?_take] at hv
  split at hv
  · rw [List.getElem?_drop] at hv
    exact hv
  · cases hv
theorem Blk.there {w : World} {b : Nat} {t : TypeId} {cs : List Value} (h : Blk w b t cs) (o n : Nat) (hn : o + n ≤ cs.length) : w.there b o n := fun j hj => ⟨by rw [h.cell, List.getElem?_eq_getElem (by omega)]; rfl, h.frozen _⟩
def setL (cs : List Value) : Nat → List Value → List Value
  | _, [] => cs
  | o, v :: vs => setL (cs.set o v) (o + 1) vs
theorem Blk.setCells {b : Nat} {t : TypeId} : ∀ {w : World} {cs : List Value} (_ : Blk w b t cs) (o : Nat) (vs : List Value), Blk (w.setCells b o vs) b t (setL cs o vs)
  | _, _, h, _, [] => h
  | _, _, h, o, v :: vs => Blk.setCells (h.set o v) (o + 1) vs
theorem Only.setCells {S : List Nat} {a : World} {b : Nat} (hb : b ∈ S ∨ a.heap.size ≤ b) : ∀ {w : World} (_ : Only S a w) (o : Nat) (vs : List Value), Only S a (w.setCells b o vs)
  | _, h, _, [] => h
  | _, h, o, v :: vs => Only.setCells hb (h.setCell (p := ⟨b, o, none⟩) hb v) (o + 1) vs

set_option maxRecDepth 100000 in
set_option maxHeartbeats 4000000 in
theorem groups1_any (g : Gp) (w : World) (hA : MacIn w g.like) (hl : g.like.labs.length ≤ 1000000) (ht : g.like.tnts.length ≤ 1000000) :
    Calls Try.prog 55 #[.agg #[.string (g).nm, .int .i64 (g).mn, .int .i64 (g).mx, .string (g).like.nm, .string (g).like.gp, .int .i64 (g).like.r0, .int .i64 (g).like.r1, .int .i64 (g).like.r2, .int .i64 (g).like.r3, .int .i64 (g).like.r4, .slice (g).like.la (g).like.labs.length (g).like.lk, .slice (g).like.ta (g).like.tnts.length (g).like.tk, .bool (g).like.rd, .int .i64 (g).pr, .int .i64 (g).rk]] w fun e w' => (∃ g' : Gp, nrm g' = nrm g ∧ e = .returned (.agg #[.string (g').nm, .int .i64 (g').mn, .int .i64 (g').mx, .string (g').like.nm, .string (g').like.gp, .int .i64 (g').like.r0, .int .i64 (g').like.r1, .int .i64 (g').like.r2, .int .i64 (g').like.r3, .int .i64 (g').like.r4, .slice (g').like.la (g').like.labs.length (g').like.lk, .slice (g').like.ta (g').like.tnts.length (g').like.tk, .bool (g').like.rd, .int .i64 (g').pr, .int .i64 (g').rk]) ∧ MO w' w.heap.size g'.like) ∧ Below w.heap.size w w' := by
  have C := fun V (hV : Below w.heap.size w V) => clonem_any g.like V (hA.mono hV) hl ht
  have HC := Lib.hid C
  clear C hA
  obtain ⟨nm, mn, mx, m, pr, rk⟩ := g
  simp only at HC hl ht ⊢
  go_enter Try.func55, Try.ntmps55
  go_wp2_with (first
    | ((with_reducible refine at_load (ty := 47) ?_); refine load_cells rfl 47 (.tmp 3) rfl w.heap.size 3 rfl [.string m.nm, .string m.gp, .int .i64 m.r0, .int .i64 m.r1, .int .i64 m.r2, .int .i64 m.r3, .int .i64 m.r4, .slice m.la m.labs.length m.lk, .slice m.ta m.tnts.length m.tk, .bool m.rd] _ Try.underlying47 rfl (by kernel_rfl) (((Blk.new w 49 [.string nm, .int .i64 mn, .int .i64 mx, .string m.nm, .string m.gp, .int .i64 m.r0, .int .i64 m.r1, .int .i64 m.r2, .int .i64 m.r3, .int .i64 m.r4, .slice m.la m.labs.length m.lk, .slice m.ta m.tnts.length m.tk, .bool m.rd, .int .i64 pr, .int .i64 rk]).alloc _).range 3 _ rfl) ?_)
    | (go_at_call 56; (with_reducible refine (HC.out _ (by (repeat' (first | with_reducible exact Below.refl _ _ | with_reducible assumption | with_reducible refine Below.drew ?_ | with_reducible refine below_drewN' ?_ _ | with_reducible refine Below.alloc ?_ ?_ _ | with_reducible refine Below.setCell ?_ ?_ _ | with_reducible refine below_step (by assumption) ?_ ?_ | omega | (simp; done) | (simp; omega))))).mono ?_); rintro e w1 ⟨⟨v, rfl, hv⟩, hb1⟩; obtain ⟨vl, vt, rfl, o1, o2⟩ := hv; obtain ⟨sl, kl, rfl, _⟩ := own_rows kcs_len o1 (by decide); obtain ⟨st, kt, rfl, _⟩ := own_rows tcs_len o2 (by decide); have HO1 := Lib.hid o1; have HO2 := Lib.hid o2; clear o1 o2; have HB1 := Lib.hid (show Below w.heap.size w w1 by (repeat' (first | with_reducible exact Below.refl _ _ | with_reducible assumption | with_reducible refine Below.drew ?_ | with_reducible refine below_drewN' ?_ _ | with_reducible refine Below.alloc ?_ ?_ _ | with_reducible refine Below.setCell ?_ ?_ _ | with_reducible refine below_step (by assumption) ?_ ?_ | omega | (simp; done) | (simp; omega)))); have hz1 := hb1.size; (try simp at hz1); have HX1 := Lib.hid (((Blk.new w 49 [.string nm, .int .i64 mn, .int .i64 mx, .string m.nm, .string m.gp, .int .i64 m.r0, .int .i64 m.r1, .int .i64 m.r2, .int .i64 m.r3, .int .i64 m.r4, .slice m.la m.labs.length m.lk, .slice m.ta m.tnts.length m.tk, .bool m.rd, .int .i64 pr, .int .i64 rk]).alloc _).below hb1); have HY1 := Lib.hid ((Blk.new (w.alloc _) 49 [.string ⟨#[]⟩, .int .i64 0, .int .i64 0, .string ⟨#[]⟩, .string ⟨#[]⟩, .int .i64 0, .int .i64 0, .int .i64 0, .int .i64 0, .int .i64 0, .slice none 0 0, .slice none 0 0, .bool false, .int .i64 0, .int .i64 0]).below hb1); have hs1 : (w.alloc (Obj.cells #[.string nm, .int .i64 mn, .int .i64 mx, .string m.nm, .string m.gp, .int .i64 m.r0, .int .i64 m.r1, .int .i64 m.r2, .int .i64 m.r3, .int .i64 m.r4, .slice m.la m.labs.length m.lk, .slice m.ta m.tnts.length m.tk, .bool m.rd, .int .i64 pr, .int .i64 rk] 49)).heap.size = w.heap.size + 1 := World.size_alloc _ _; rw [hs1] at HY1; clear hb1)
    | ((with_reducible refine at_store (ty := 47) ?_); refine wpList_store_mid rfl 47 (.tmp 6) (.tmp 5) rfl w.heap.size 3 _ rfl rfl (HX1.out.there 3 10 (Nat.le_of_ble_eq_true rfl)) (by kernel_rfl) (by rw [← Array.all_toList]; rfl) ?_; obtain ⟨W2, hW2⟩ : ∃ W2, W2 = w1.setCells w.heap.size 3 [.string m.nm, .string m.gp, .int .i64 m.r0, .int .i64 m.r1, .int .i64 m.r2, .int .i64 m.r3, .int .i64 m.r4, .slice sl m.labs.length kl, .slice st m.tnts.length kt, .bool m.rd] := ⟨_, rfl⟩; (show wpList _ _ _ _ _ (w1.setCells w.heap.size 3 [.string m.nm, .string m.gp, .int .i64 m.r0, .int .i64 m.r1, .int .i64 m.r2, .int .i64 m.r3, .int .i64 m.r4, .slice sl m.labs.length kl, .slice st m.tnts.length kt, .bool m.rd])); rw [← hW2]; have HW2 := Lib.hid (show Only [w.heap.size] w1 W2 from by rw [hW2]; exact Only.setCells (.inl (List.mem_singleton.2 rfl)) (Only.refl _ _) _ _); have HX2 := Lib.hid (show Blk W2 w.heap.size 49 [.string nm, .int .i64 mn, .int .i64 mx, .string m.nm, .string m.gp, .int .i64 m.r0, .int .i64 m.r1, .int .i64 m.r2, .int .i64 m.r3, .int .i64 m.r4, .slice sl m.labs.length kl, .slice st m.tnts.length kt, .bool m.rd, .int .i64 pr, .int .i64 rk] from by rw [hW2]; exact HX1.out.setCells 3 _); have HY2 := Lib.hid (HY1.out.only HW2.out (by simp)); clear hW2)
    | ((with_reducible refine at_load (ty := 49) ?_); refine load_cells rfl 49 (.tmp 1) rfl w.heap.size 0 rfl [.string nm, .int .i64 mn, .int .i64 mx, .string m.nm, .string m.gp, .int .i64 m.r0, .int .i64 m.r1, .int .i64 m.r2, .int .i64 m.r3, .int .i64 m.r4, .slice sl m.labs.length kl, .slice st m.tnts.length kt, .bool m.rd, .int .i64 pr, .int .i64 rk] _ Try.underlying49 rfl (by kernel_rfl) (HX2.out.range 0 _ rfl) ?_)
    | ((with_reducible refine at_store (ty := 49) ?_); refine wpList_store_mid rfl 49 (.tmp 2) (.tmp 7) rfl (w.heap.size + 1) 0 _ rfl rfl (HY2.out.there 0 15 (Nat.le_of_ble_eq_true rfl)) (by kernel_rfl) (by rw [← Array.all_toList]; rfl) ?_; obtain ⟨W3, hW3⟩ : ∃ W3, W3 = W2.setCells (w.heap.size + 1) 0 [.string nm, .int .i64 mn, .int .i64 mx, .string m.nm, .string m.gp, .int .i64 m.r0, .int .i64 m.r1, .int .i64 m.r2, .int .i64 m.r3, .int .i64 m.r4, .slice sl m.labs.length kl, .slice st m.tnts.length kt, .bool m.rd, .int .i64 pr, .int .i64 rk] := ⟨_, rfl⟩; (show wpList _ _ _ _ _ (W2.setCells (w.heap.size + 1) 0 [.string nm, .int .i64 mn, .int .i64 mx, .string m.nm, .string m.gp, .int .i64 m.r0, .int .i64 m.r1, .int .i64 m.r2, .int .i64 m.r3, .int .i64 m.r4, .slice sl m.labs.length kl, .slice st m.tnts.length kt, .bool m.rd, .int .i64 pr, .int .i64 rk])); rw [← hW3]; have HW3 := Lib.hid (show Only [w.heap.size, w.heap.size + 1] w1 W3 from by rw [hW3]; exact Only.setCells (.inl (by simp)) (HW2.out.mono (by simp)) _ _); have HY3 := Lib.hid (show Blk W3 (w.heap.size + 1) 49 [.string nm, .int .i64 mn, .int .i64 mx, .string m.nm, .string m.gp, .int .i64 m.r0, .int .i64 m.r1, .int .i64 m.r2, .int .i64 m.r3, .int .i64 m.r4, .slice sl m.labs.length kl, .slice st m.tnts.length kt, .bool m.rd, .int .i64 pr, .int .i64 rk] from by rw [hW3]; exact HY2.out.setCells 0 _); clear hW3))
  have z0 := HY3.out.cell 0
  have z1 := HY3.out.cell 1
  have z2 := HY3.out.cell 2
  have z3 := HY3.out.cell 3
  have z4 := HY3.out.cell 4
  have z5 := HY3.out.cell 5
  have z6 := HY3.out.cell 6
  have z7 := HY3.out.cell 7
  have z8 := HY3.out.cell 8
  have z9 := HY3.out.cell 9
  have z10 := HY3.out.cell 10
  have z11 := HY3.out.cell 11
  have z12 := HY3.out.cell 12
  have z13 := HY3.out.cell 13
  have z14 := HY3.out.cell 14
  refine bodyPost_ret (v := .agg #[.string nm, .int .i64 mn, .int .i64 mx, .string m.nm, .string m.gp, .int .i64 m.r0, .int .i64 m.r1, .int .i64 m.r2, .int .i64 m.r3, .int .i64 m.r4, .slice sl m.labs.length kl, .slice st m.tnts.length kt, .bool m.rd, .int .i64 pr, .int .i64 rk]) (by simp [results, Try.results55, go_sem, *]) rfl ?_
  have o1 := HO1.out
  have o2 := HO2.out
  simp only [World.size_alloc, World.size_setCell] at o1 o2
  refine ⟨⟨⟨nm, mn, mx, { m with la := sl, lk := kl, ta := st, tk := kt }, pr, rk⟩, rfl, rfl, ⟨OwnL.mono (own_same o1 fun g e => HW3.out.block g (own_lt o1 e).2 fun h => ?_) (by omega), OwnL.mono (own_same o2 fun g e => HW3.out.block g (own_lt o2 e).2 fun h => ?_) (by omega)⟩⟩, HW3.out.below HB1.out (by omega) (by simp)⟩
  · have := (own_lt o1 e).1
    simp at h
    omega
  · have := (own_lt o2 e).1
    simp at h
    omega
theorem Try.info49 : (Try.prog.info? 49).map (fun i => (i.zero, i.size, i.bytes)) = some (some (.agg #[.string ⟨#[]⟩, .int .i64 0, .int .i64 0, .string ⟨#[]⟩, .string ⟨#[]⟩, .int .i64 0, .int .i64 0, .int .i64 0, .int .i64 0, .int .i64 0, .slice none 0 0, .slice none 0 0, .bool false, .int .i64 0, .int .i64 0]), 15, 176) := by kernel_rfl
theorem grow_one (g : Gp) : ∀ u ∈ grow g, u.oneCell' = true := by
  intro u hu
  simp [grow, mrow] at hu
  rcases hu with rfl | rfl | rfl | rfl | rfl | rfl | rfl | rfl | rfl | rfl | rfl | rfl | rfl | rfl | rfl <;> rfl
/-- A group that lies in such a list is loaded. -/
theorem macs_below {w w' : World} {l : List Gp} (h : ∀ g ∈ l, MacIn w g.like) (hb : Below w.heap.size w w') : ∀ g ∈ l, MacIn w' g.like := fun g hg => (h g hg).mono hb

set_option maxRecDepth 100000 in
set_option maxHeartbeats 8000000 in
theorem eachg_any (c : Option Addr) (kc : Nat) (xs : List Gp) (w : World) (hF : GpL w c xs) (hA : ∀ g ∈ xs, MacIn w g.like) (hl : ∀ g ∈ xs, g.like.labs.length ≤ 1000000 ∧ g.like.tnts.length ≤ 1000000) (hm : xs.length ≤ 1000000) :
    Calls Try.prog 54 #[.slice c xs.length kc, .func (.func 55) #[] #[]] w fun e w' => (∃ v C, e = .returned v ∧ C.map nrm = xs.map nrm ∧ OwnL grow 15 w.heap.size 49 C v w' ∧ ∀ g ∈ C, MO w' w.heap.size g.like) ∧ Below w.heap.size w w' := by
  have HF := Lib.hid hF
  have HA := Lib.hid hA
  have HL := Lib.hid hl
  clear hF hA hl
  obtain ⟨i0, hi, hz0, hz1, hz2⟩ := info_parts Try.info49
  have Hi := Lib.hid hi
  have Hz0 := Lib.hid hz0
  have Hz1 := Lib.hid hz1
  have Hz2 := Lib.hid hz2
  clear hi hz0 hz1 hz2
  obtain ⟨n, hln⟩ : ∃ n, xs.length = n := ⟨_, rfl⟩
  rw [hln] at hm ⊢
  have Hln := Lib.hid hln
  clear hln
  go_enter Try.func54, Try.ntmps54
  go_wp2
  obtain ⟨W, hW⟩ : ∃ W, W = w := ⟨_, rfl⟩
  have HW := Lib.hid (show Below w.heap.size w W by rw [hW]; (repeat' (first | with_reducible exact Below.refl _ _ | with_reducible assumption | with_reducible refine Below.drew ?_ | with_reducible refine below_drewN' ?_ _ | with_reducible refine Below.alloc ?_ ?_ _ | with_reducible refine Below.setCell ?_ ?_ _ | with_reducible refine below_step (by assumption) ?_ ?_ | omega | (simp; done) | (simp; omega))))
  have hWz : w.heap.size ≤ W.heap.size := HW.out.size
  have HFW := Lib.hid (HF.out.mono HW.out)
  (try rw [← hW])
  clear hW
  go_loopw [5, 7, 10] (fun v _ i wr => ∃ (k : Nat) (C : List Gp), k ≤ n ∧ i = .int .i64 k ∧ C.map nrm = (xs.take k).map nrm ∧ wr.ownsRow W.heap.size 49 15 v C.length (C.flatMap grow) ∧ (∀ g ∈ C, MO wr W.heap.size g.like) ∧ Below W.heap.size W wr) (fun _ _ i _ => n - (intOf i).toNat)
  case atStart => exact ⟨0, [], by omega, rfl, rfl, World.ownsRow_nil _ _ _ _, (fun _ h => by cases h), by (repeat' (first | with_reducible exact Below.refl _ _ | with_reducible assumption | with_reducible refine Below.drew ?_ | with_reducible refine below_drewN' ?_ _ | with_reducible refine Below.alloc ?_ ?_ _ | with_reducible refine Below.setCell ?_ ?_ _ | with_reducible refine below_step (by assumption) ?_ ?_ | omega | (simp; done) | (simp; omega)))⟩
  case round =>
    obtain ⟨k, C, hk, rfl, hC, hown, hM, hB⟩ := hrel
    obtain ⟨hcB, hfB⟩ := bcell hB
    have hbz := hB.size
    have Hown := Lib.hid hown
    have HB := Lib.hid hB
    have HC := Lib.hid hC
    have HM := Lib.hid hM
    have hcl : C.length = k := by have := nrm_len hC; rw [List.length_take] at this; have := Hln.out; omega
    have Hcl := Lib.hid hcl
    clear hown hC hM hcl
    by_cases hlt : k < n
    · skip
      obtain ⟨x, hx⟩ := mem_at (l := xs) (k := k) (by rw [Hln.out]; exact hlt)
      have Hx := Lib.hid hx
      obtain ⟨b, off, rfl, hb, hc⟩ := HFW.out (by rw [Hln.out]; omega)
      have hbw : b < wr.heap.size := by omega
      obtain ⟨c0, c1, c2, c3, c4, c5, c6, c7, c8, c9, c10, c11, c12, c13, c14⟩ := grow_cells (hc k x hx)
      clear hc hx
      have HG1 := Lib.hid (fun V (hV : Below wr.heap.size wr V) => groups1_any x V ((HA.out x (List.mem_of_getElem? Hx.out)).mono (HW.out.trans ((HB.out.mono hWz).trans (hV.mono (by omega))))) (HL.out x (List.mem_of_getElem? Hx.out)).1 (HL.out x (List.mem_of_getElem? Hx.out)).2)
      have hc3 : C.length + 1 ≤ maxLen := by have := Hcl.out; unfold maxLen; omega
      have hc4 : (C.length + 1) * 176 ≤ 140737488355328 := by have := Hcl.out; omega
      go_wp2_with (first
        | (go_at_call 55; (with_reducible refine (HG1.out _ (by (repeat' (first | with_reducible exact Below.refl _ _ | with_reducible assumption | with_reducible refine Below.drew ?_ | with_reducible refine below_drewN' ?_ _ | with_reducible refine Below.alloc ?_ ?_ _ | with_reducible refine Below.setCell ?_ ?_ _ | with_reducible refine below_step (by assumption) ?_ ?_ | omega | (simp; done) | (simp; omega))))).mono ?_); rintro e w5 ⟨⟨g', hn, rfl, hm5⟩, hb5⟩; have hz5 := hb5.size; (try simp at hz5); have HN5 := Lib.hid hn; have HM5 := Lib.hid (hm5.less (base' := W.heap.size) (by simp; omega)); have HOx := Lib.hid (own_kept (Hown.out.alloc _) hb5); have HBx := Lib.hid (show Below W.heap.size W w5 by (repeat' (first | with_reducible exact Below.refl _ _ | with_reducible assumption | with_reducible refine Below.drew ?_ | with_reducible refine below_drewN' ?_ _ | with_reducible refine Below.alloc ?_ ?_ _ | with_reducible refine Below.setCell ?_ ?_ _ | with_reducible refine below_step (by assumption) ?_ ?_ | omega | (simp; done) | (simp; omega)))); have HMx := Lib.hid (show ∀ g ∈ C, MO w5 W.heap.size g.like from fun g hg => ((HM.out g hg).kept (((Below.refl _ _).alloc (Nat.le_refl _) _))).kept hb5); have hbx := HBx.out.size; clear hn hm5)
        | (at_builtin; refine wpList_append_own _ rfl (.tmp 14) (.tmp 18) 22 rfl W.heap.size 49 i0 _ 15 176 Try.underlying22 Hi.out Hz0.out Hz1.out Hz2.out rfl (by decide) _ C.length (C.flatMap grow) rfl (HOx.out.alloc _) ⟨w5.heap.size, 0, none⟩ 1 1 (grow g') rfl rfl (news_at _ _ _) (grow_one g') hc3 hc4 (le_alloc hbx _) ?_; intro v1 w1 hown1 hgrow1 _; have hB1 := own_below (HOx.out.alloc _) (HBx.out.alloc hbx _) (le_alloc hbx _) hgrow1; have HO1 := Lib.hid hown1; have HM1 := Lib.hid (show ∀ g ∈ C ++ [g'], MO w1 W.heap.size g.like from fun g hg => MO.grown (by rcases List.mem_append.1 hg with hg | hg; exact (HMx.out g hg).kept ((Below.refl _ _).alloc (Nat.le_refl _) _); (rw [List.mem_singleton.1 hg]; exact HM5.out.kept ((Below.refl _ _).alloc (Nat.le_refl _) _))) (HOx.out.alloc _) hgrow1); clear hown1 hgrow1))
      go_roundw
      case rel => exact ⟨k + 1, C ++ [g'], by omega, by go_num, by rw [List.map_append, HC.out, take_at Hx.out, List.map_append, List.map_cons, List.map_nil, List.map_cons, List.map_nil, HN5.out], by (have h9 := HO1.out; have e9 : (C ++ [g']).flatMap grow = C.flatMap grow ++ grow g' := (by rw [List.flatMap_append, List.flatMap_cons, List.flatMap_nil, List.append_nil]); rw [e9, List.length_append]; exact h9), HM1.out, hB1⟩
      case measure => simp [intOf]; omega
    · obtain rfl : k = n := by omega
      have hC9 : C.map nrm = xs.map nrm := by rw [HC.out, List.take_of_length_le (Nat.le_of_eq Hln.out)]
      have HC9 := Lib.hid hC9
      clear hC9
      go_wp2
      refine bodyPost_ret (by simp [results, Try.results54, go_sem]) rfl ⟨⟨_, C, rfl, HC9.out, OwnL.mono Hown.out hWz, fun g hg => (HM.out g hg).less hWz⟩, HW.out.trans (HB.out.mono hWz)⟩
set_option maxRecDepth 100000 in
set_option maxHeartbeats 4000000 in
theorem groups_any (c : Option Addr) (kc : Nat) (xs : List Gp) (w : World) (hF : GpL w c xs) (hA : ∀ g ∈ xs, MacIn w g.like) (hl : ∀ g ∈ xs, g.like.labs.length ≤ 1000000 ∧ g.like.tnts.length ≤ 1000000) (hm : xs.length ≤ 1000000) :
    Calls Try.prog 32 #[.slice c xs.length kc] w fun e w' => (∃ v C, e = .returned v ∧ C.map nrm = xs.map nrm ∧ OwnL grow 15 w.heap.size 49 C v w' ∧ ∀ g ∈ C, MO w' w.heap.size g.like) ∧ Below w.heap.size w w' := by
  have HC := Lib.hid (eachg_any c kc xs w hF hA hl hm)
  clear hF hA hl
  go_enter Try.func32, Try.ntmps32
  go_wp2_with (go_at_call 54; (with_reducible refine HC.out.mono ?_); rintro e w1 ⟨⟨v, C, rfl, hC⟩, hb⟩)
  refine bodyPost_ret (by simp [results, Try.results32, go_sem]) rfl ⟨⟨v, C, rfl, hC⟩, hb⟩
end Go.Proofs.Ytmkdfcggjlhcpaa
