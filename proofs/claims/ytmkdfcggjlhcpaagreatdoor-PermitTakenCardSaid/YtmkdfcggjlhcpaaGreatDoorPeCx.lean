/-
  caps.Within with machines that stand for many (amounts up to 2^59); triremeref23.Right.
-/
import Derived.Test.YtmkdfcggjlhcpaaGreatDoorMIx
import Derived.Test.YtmkdfcggjlhcpaaGreatDoorClPx
import Derived.Test.YtmkdfcggjlhcpaaGreatDoorMDx
import Derived.Test.YtmkdfcggjlhcpaaGreatDoorMAx
import Derived.Laws.EntriesVeiled
namespace Go.Proofs.YtmkdfcggjlhcpaaGreatDoor
open Go.RowKit
set_option linter.unusedVariables false
set_option linter.unusedSimpArgs false
def nrm (g : Gp) : Gp := { g with like := { g.like with la := none, lk := 0, ta := none, tk := 0 } }
theorem nrm_gk {l m : List Gp} (h : l.map nrm = m.map nrm) : l.map gkOf = m.map gkOf := by
  have e : ∀ l : List Gp, l.map gkOf = (l.map nrm).map gkOf := fun l => by
    rw [List.map_map]
    rfl
  rw [e l, e m, h]
theorem nrm_len {l m : List Gp} (h : l.map nrm = m.map nrm) : l.length = m.length := by
  have := congrArg List.length h
  rwa [List.length_map, List.length_map] at this
theorem nrm_at {l m : List Gp} (h : l.map nrm = m.map nrm) {j : Nat} {g : Gp} (hg : l[j]? = some g) : ∃ g', m[j]? = some g' ∧ nrm g = nrm g' := by
  have h1 : (l.map nrm)[j]? = some (nrm g) := by rw [List.getElem?_map, hg]; rfl
  rw [h, List.getElem?_map] at h1
  cases h2 : m[j]? with
  | none => rw [h2] at h1; cases h1
  | some g' =>
    rw [h2] at h1
    exact ⟨g', rfl, (Option.some.inj h1).symm⟩
theorem nrm_like {g g' : Gp} (h : nrm g = nrm g') : g.like.labs = g'.like.labs ∧ g.like.tnts = g'.like.tnts ∧ g.nm = g'.nm ∧ g.mn = g'.mn ∧ g.mx = g'.mx :=
  ⟨show (nrm g).like.labs = (nrm g').like.labs by rw [h], show (nrm g).like.tnts = (nrm g').like.tnts by rw [h], show (nrm g).nm = (nrm g').nm by rw [h], show (nrm g).mn = (nrm g').mn by rw [h], show (nrm g).mx = (nrm g').mx by rw [h]⟩
theorem MO.kept {w w' : World} {base : Nat} {m : Mac} (h : MO w base m) (hb : Below w.heap.size w w') : MO w' base m := ⟨own_kept h.l hb, own_kept h.t hb⟩
theorem MO.less {w : World} {base base' : Nat} {m : Mac} (h : MO w base m) (hb : base' ≤ base) : MO w base' m := ⟨OwnL.mono h.l hb, OwnL.mono h.t hb⟩
theorem MO.grown {w w' : World} {base B n k : Nat} {m : Mac} {v : Value} {xs : List Value} (h : MO w base m) (ho : w.ownsRow B 37 k v n xs) (hg : w.grownBy w' v.ownBlock) : MO w' base m := by
  refine ⟨own_same h.l fun g e => hg.block g (own_lt h.l e).2 fun e2 => (own_ty h.l e).ne (own_ty ho e2.symm) (by decide) rfl, own_same h.t fun g e => hg.block g (own_lt h.t e).2 fun e2 => (own_ty h.t e).ne (own_ty ho e2.symm) (by decide) rfl⟩
theorem Blk.range {w : World} {b : Nat} {t : TypeId} {cs : List Value} (h : Blk w b t cs) (o : Nat) (l : List Value) (hl : (cs.drop o).take l.length = l) : w.rangeAt b o l := fun j v hv => by
  rw [h.cell]
  rw [← hl, List.getElem?_take] at hv
  split at hv
  · rw [List.getElem?_drop] at hv
    exact hv
  · cases hv
theorem Blk.there {w : World} {b : Nat} {t : TypeId} {cs : List Value} (h : Blk w b t cs) (o n : Nat) (hn : o + n ≤ cs.length) : w.there b o n := fun j hj => ⟨by rw [h.cell, List.getElem?_eq_getElem (by omega)]; rfl, h.frozen _⟩
def setL (cs : List Value) : Nat → List Value → List Value
  | _, [] => cs
  | o, v :: vs => setL (cs.set o v) (o + 1) vs
theorem Blk.setCells {b : Nat} {t : TypeId} : ∀ {w : World} {cs : List Value} (_ : Blk w b t cs) (o : Nat) (vs : List Value), Blk (w.setCells b o vs) b t (setL cs o vs)
  | _, _, h, _, [] => h
  | _, _, h, o, v :: vs => Blk.setCells (h.set o v) (o + 1) vs
theorem Only.setCells {S : List Nat} {a : World} {b : Nat} (hb : b ∈ S ∨ a.heap.size ≤ b) : ∀ {w : World} (_ : Only S a w) (o : Nat) (vs : List Value), Only S a (w.setCells b o vs)
  | _, h, _, [] => h
  | _, h, o, v :: vs => Only.setCells hb (h.setCell (p := ⟨b, o, none⟩) hb v) (o + 1) vs
set_option maxRecDepth 100000 in
set_option maxHeartbeats 4000000 in
theorem groups1_any (g : Gp) (w : World) (hA : MacIn w g.like) (hl : g.like.labs.length ≤ 1000000) (ht : g.like.tnts.length ≤ 1000000) :
    Calls Tryz.prog 50 #[.agg #[.string (g).nm, .int .i64 (g).mn, .int .i64 (g).mx, .string (g).like.nm, .string (g).like.gp, .int .i64 (g).like.r0, .int .i64 (g).like.r1, .int .i64 (g).like.r2, .int .i64 (g).like.r3, .int .i64 (g).like.r4, .slice (g).like.la (g).like.labs.length (g).like.lk, .slice (g).like.ta (g).like.tnts.length (g).like.tk, .bool (g).like.rd, .int .i64 (g).pr, .int .i64 (g).rk]] w fun e w' => (∃ g' : Gp, nrm g' = nrm g ∧ e = .returned (.agg #[.string (g').nm, .int .i64 (g').mn, .int .i64 (g').mx, .string (g').like.nm, .string (g').like.gp, .int .i64 (g').like.r0, .int .i64 (g').like.r1, .int .i64 (g').like.r2, .int .i64 (g').like.r3, .int .i64 (g').like.r4, .slice (g').like.la (g').like.labs.length (g').like.lk, .slice (g').like.ta (g').like.tnts.length (g').like.tk, .bool (g').like.rd, .int .i64 (g').pr, .int .i64 (g').rk]) ∧ MO w' w.heap.size g'.like) ∧ Below w.heap.size w w' := by
  have C := fun V (hV : Below w.heap.size w V) => clonem_any g.like V (hA.mono hV) hl ht
  have HC := Lib.hid C
  clear C hA
  obtain ⟨nm, mn, mx, m, pr, rk⟩ := g
  simp only at HC hl ht ⊢
  go_enter Tryz.func50, Tryz.ntmps50
  go_wp2_with (first
    | ((with_reducible refine at_load (ty := 35) ?_); refine load_cells rfl 35 (.tmp 3) rfl w.heap.size 3 rfl [.string m.nm, .string m.gp, .int .i64 m.r0, .int .i64 m.r1, .int .i64 m.r2, .int .i64 m.r3, .int .i64 m.r4, .slice m.la m.labs.length m.lk, .slice m.ta m.tnts.length m.tk, .bool m.rd] _ Tryz.underlying35 rfl (by kernel_rfl) (((Blk.new w 37 [.string nm, .int .i64 mn, .int .i64 mx, .string m.nm, .string m.gp, .int .i64 m.r0, .int .i64 m.r1, .int .i64 m.r2, .int .i64 m.r3, .int .i64 m.r4, .slice m.la m.labs.length m.lk, .slice m.ta m.tnts.length m.tk, .bool m.rd, .int .i64 pr, .int .i64 rk]).alloc _).range 3 _ rfl) ?_)
    | (go_at_call 51; (with_reducible refine (HC.out _ (by (repeat' (first | with_reducible exact Below.refl _ _ | with_reducible assumption | with_reducible refine Below.drew ?_ | with_reducible refine below_drewN' ?_ _ | with_reducible refine Below.alloc ?_ ?_ _ | with_reducible refine Below.setCell ?_ ?_ _ | with_reducible refine below_step (by assumption) ?_ ?_ | omega | (simp; done) | (simp; omega))))).mono ?_); rintro e w1 ⟨⟨v, rfl, hv⟩, hb1⟩; obtain ⟨vl, vt, rfl, o1, o2⟩ := hv; obtain ⟨sl, kl, rfl, _⟩ := own_rows kcs_len o1 (by decide); obtain ⟨st, kt, rfl, _⟩ := own_rows tcs_len o2 (by decide); have HO1 := Lib.hid o1; have HO2 := Lib.hid o2; clear o1 o2; have HB1 := Lib.hid (show Below w.heap.size w w1 by (repeat' (first | with_reducible exact Below.refl _ _ | with_reducible assumption | with_reducible refine Below.drew ?_ | with_reducible refine below_drewN' ?_ _ | with_reducible refine Below.alloc ?_ ?_ _ | with_reducible refine Below.setCell ?_ ?_ _ | with_reducible refine below_step (by assumption) ?_ ?_ | omega | (simp; done) | (simp; omega)))); have hz1 := hb1.size; (try simp at hz1); have HX1 := Lib.hid (((Blk.new w 37 [.string nm, .int .i64 mn, .int .i64 mx, .string m.nm, .string m.gp, .int .i64 m.r0, .int .i64 m.r1, .int .i64 m.r2, .int .i64 m.r3, .int .i64 m.r4, .slice m.la m.labs.length m.lk, .slice m.ta m.tnts.length m.tk, .bool m.rd, .int .i64 pr, .int .i64 rk]).alloc _).below hb1); have HY1 := Lib.hid ((Blk.new (w.alloc _) 37 [.string ⟨#[]⟩, .int .i64 0, .int .i64 0, .string ⟨#[]⟩, .string ⟨#[]⟩, .int .i64 0, .int .i64 0, .int .i64 0, .int .i64 0, .int .i64 0, .slice none 0 0, .slice none 0 0, .bool false, .int .i64 0, .int .i64 0]).below hb1); have hs1 : (w.alloc (Obj.cells #[.string nm, .int .i64 mn, .int .i64 mx, .string m.nm, .string m.gp, .int .i64 m.r0, .int .i64 m.r1, .int .i64 m.r2, .int .i64 m.r3, .int .i64 m.r4, .slice m.la m.labs.length m.lk, .slice m.ta m.tnts.length m.tk, .bool m.rd, .int .i64 pr, .int .i64 rk] 37)).heap.size = w.heap.size + 1 := World.size_alloc _ _; rw [hs1] at HY1; clear hb1)
    | ((with_reducible refine at_store (ty := 35) ?_); refine wpList_store_mid rfl 35 (.tmp 6) (.tmp 5) rfl w.heap.size 3 _ rfl rfl (HX1.out.there 3 10 (Nat.le_of_ble_eq_true rfl)) (by kernel_rfl) (by rw [← Array.all_toList]; rfl) ?_; obtain ⟨W2, hW2⟩ : ∃ W2, W2 = w1.setCells w.heap.size 3 [.string m.nm, .string m.gp, .int .i64 m.r0, .int .i64 m.r1, .int .i64 m.r2, .int .i64 m.r3, .int .i64 m.r4, .slice sl m.labs.length kl, .slice st m.tnts.length kt, .bool m.rd] := ⟨_, rfl⟩; (show wpList _ _ _ _ _ (w1.setCells w.heap.size 3 [.string m.nm, .string m.gp, .int .i64 m.r0, .int .i64 m.r1, .int .i64 m.r2, .int .i64 m.r3, .int .i64 m.r4, .slice sl m.labs.length kl, .slice st m.tnts.length kt, .bool m.rd])); rw [← hW2]; have HW2 := Lib.hid (show Only [w.heap.size] w1 W2 from by rw [hW2]; exact Only.setCells (.inl (List.mem_singleton.2 rfl)) (Only.refl _ _) _ _); have HX2 := Lib.hid (show Blk W2 w.heap.size 37 [.string nm, .int .i64 mn, .int .i64 mx, .string m.nm, .string m.gp, .int .i64 m.r0, .int .i64 m.r1, .int .i64 m.r2, .int .i64 m.r3, .int .i64 m.r4, .slice sl m.labs.length kl, .slice st m.tnts.length kt, .bool m.rd, .int .i64 pr, .int .i64 rk] from by rw [hW2]; exact HX1.out.setCells 3 _); have HY2 := Lib.hid (HY1.out.only HW2.out (by simp)); clear hW2)
    | ((with_reducible refine at_load (ty := 37) ?_); refine load_cells rfl 37 (.tmp 1) rfl w.heap.size 0 rfl [.string nm, .int .i64 mn, .int .i64 mx, .string m.nm, .string m.gp, .int .i64 m.r0, .int .i64 m.r1, .int .i64 m.r2, .int .i64 m.r3, .int .i64 m.r4, .slice sl m.labs.length kl, .slice st m.tnts.length kt, .bool m.rd, .int .i64 pr, .int .i64 rk] _ Tryz.underlying37 rfl (by kernel_rfl) (HX2.out.range 0 _ rfl) ?_)
    | ((with_reducible refine at_store (ty := 37) ?_); refine wpList_store_mid rfl 37 (.tmp 2) (.tmp 7) rfl (w.heap.size + 1) 0 _ rfl rfl (HY2.out.there 0 15 (Nat.le_of_ble_eq_true rfl)) (by kernel_rfl) (by rw [← Array.all_toList]; rfl) ?_; obtain ⟨W3, hW3⟩ : ∃ W3, W3 = W2.setCells (w.heap.size + 1) 0 [.string nm, .int .i64 mn, .int .i64 mx, .string m.nm, .string m.gp, .int .i64 m.r0, .int .i64 m.r1, .int .i64 m.r2, .int .i64 m.r3, .int .i64 m.r4, .slice sl m.labs.length kl, .slice st m.tnts.length kt, .bool m.rd, .int .i64 pr, .int .i64 rk] := ⟨_, rfl⟩; (show wpList _ _ _ _ _ (W2.setCells (w.heap.size + 1) 0 [.string nm, .int .i64 mn, .int .i64 mx, .string m.nm, .string m.gp, .int .i64 m.r0, .int .i64 m.r1, .int .i64 m.r2, .int .i64 m.r3, .int .i64 m.r4, .slice sl m.labs.length kl, .slice st m.tnts.length kt, .bool m.rd, .int .i64 pr, .int .i64 rk])); rw [← hW3]; have HW3 := Lib.hid (show Only [w.heap.size, w.heap.size + 1] w1 W3 from by rw [hW3]; exact Only.setCells (.inl (by simp)) (HW2.out.mono (by simp)) _ _); have HY3 := Lib.hid (show Blk W3 (w.heap.size + 1) 37 [.string nm, .int .i64 mn, .int .i64 mx, .string m.nm, .string m.gp, .int .i64 m.r0, .int .i64 m.r1, .int .i64 m.r2, .int .i64 m.r3, .int .i64 m.r4, .slice sl m.labs.length kl, .slice st m.tnts.length kt, .bool m.rd, .int .i64 pr, .int .i64 rk] from by rw [hW3]; exact HY2.out.setCells 0 _); clear hW3))
  have z0 := HY3.out.cell 0
  have z1 := HY3.out.cell 1
  have z2 := HY3.out.cell 2
  have z3 := HY3.out.cell 3
  have z4 := HY3.out.cell 4
  have z5 := HY3.out.cell 5
  have z6 := HY3.out.cell 6
  have z7 := HY3.out.cell 7
  have z8 := HY3.out.cell 8
  have z9 := HY3.out.cell 9
  have z10 := HY3.out.cell 10
  have z11 := HY3.out.cell 11
  have z12 := HY3.out.cell 12
  have z13 := HY3.out.cell 13
  have z14 := HY3.out.cell 14
  refine bodyPost_ret (v := .agg #[.string nm, .int .i64 mn, .int .i64 mx, .string m.nm, .string m.gp, .int .i64 m.r0, .int .i64 m.r1, .int .i64 m.r2, .int .i64 m.r3, .int .i64 m.r4, .slice sl m.labs.length kl, .slice st m.tnts.length kt, .bool m.rd, .int .i64 pr, .int .i64 rk]) (by simp [results, Tryz.results50, go_sem, *]) rfl ?_
  have o1 := HO1.out
  have o2 := HO2.out
  simp only [World.size_alloc, World.size_setCell] at o1 o2
  refine ⟨⟨⟨nm, mn, mx, { m with la := sl, lk := kl, ta := st, tk := kt }, pr, rk⟩, rfl, rfl, ⟨OwnL.mono (own_same o1 fun g e => HW3.out.block g (own_lt o1 e).2 fun h => ?_) (by omega), OwnL.mono (own_same o2 fun g e => HW3.out.block g (own_lt o2 e).2 fun h => ?_) (by omega)⟩⟩, HW3.out.below HB1.out (by omega) (by simp)⟩
  · have := (own_lt o1 e).1
    simp at h
    omega
  · have := (own_lt o2 e).1
    simp at h
    omega
theorem Tryz.info37 : (Tryz.prog.info? 37).map (fun i => (i.zero, i.size, i.bytes)) = some (some (.agg #[.string ⟨#[]⟩, .int .i64 0, .int .i64 0, .string ⟨#[]⟩, .string ⟨#[]⟩, .int .i64 0, .int .i64 0, .int .i64 0, .int .i64 0, .int .i64 0, .slice none 0 0, .slice none 0 0, .bool false, .int .i64 0, .int .i64 0]), 15, 176) := by kernel_rfl
theorem grow_one (g : Gp) : ∀ u ∈ grow g, u.oneCell' = true := by
  intro u hu
  simp [grow, mrow] at hu
  rcases hu with rfl | rfl | rfl | rfl | rfl | rfl | rfl | rfl | rfl | rfl | rfl | rfl | rfl | rfl | rfl <;> rfl
set_option maxRecDepth 100000 in
set_option maxHeartbeats 8000000 in
theorem eachg_any (c : Option Addr) (kc : Nat) (xs : List Gp) (w : World) (hF : GpL w c xs) (hA : ∀ g ∈ xs, MacIn w g.like) (hl : ∀ g ∈ xs, g.like.labs.length ≤ 1000000 ∧ g.like.tnts.length ≤ 1000000) (hm : xs.length ≤ 1000000) :
    Calls Tryz.prog 49 #[.slice c xs.length kc, .func (.func 50) #[] #[]] w fun e w' => (∃ v C, e = .returned v ∧ C.map nrm = xs.map nrm ∧ OwnL grow 15 w.heap.size 37 C v w' ∧ ∀ g ∈ C, MO w' w.heap.size g.like) ∧ Below w.heap.size w w' := by
  have HF := Lib.hid hF
  have HA := Lib.hid hA
  have HL := Lib.hid hl
  clear hF hA hl
  obtain ⟨i0, hi, hz0, hz1, hz2⟩ := info_parts Tryz.info37
  have Hi := Lib.hid hi
  have Hz0 := Lib.hid hz0
  have Hz1 := Lib.hid hz1
  have Hz2 := Lib.hid hz2
  clear hi hz0 hz1 hz2
  obtain ⟨n, hln⟩ : ∃ n, xs.length = n := ⟨_, rfl⟩
  rw [hln] at hm ⊢
  have Hln := Lib.hid hln
  clear hln
  go_enter Tryz.func49, Tryz.ntmps49
  go_wp2
  obtain ⟨W, hW⟩ : ∃ W, W = w := ⟨_, rfl⟩
  have HW := Lib.hid (show Below w.heap.size w W by rw [hW]; (repeat' (first | with_reducible exact Below.refl _ _ | with_reducible assumption | with_reducible refine Below.drew ?_ | with_reducible refine below_drewN' ?_ _ | with_reducible refine Below.alloc ?_ ?_ _ | with_reducible refine Below.setCell ?_ ?_ _ | with_reducible refine below_step (by assumption) ?_ ?_ | omega | (simp; done) | (simp; omega))))
  have hWz : w.heap.size ≤ W.heap.size := HW.out.size
  have HFW := Lib.hid (HF.out.mono HW.out)
  (try rw [← hW])
  clear hW
  go_loopw [5, 7, 10] (fun v _ i wr => ∃ (k : Nat) (C : List Gp), k ≤ n ∧ i = .int .i64 k ∧ C.map nrm = (xs.take k).map nrm ∧ wr.ownsRow W.heap.size 37 15 v C.length (C.flatMap grow) ∧ (∀ g ∈ C, MO wr W.heap.size g.like) ∧ Below W.heap.size W wr) (fun _ _ i _ => n - (intOf i).toNat)
  case atStart => exact ⟨0, [], by omega, rfl, rfl, World.ownsRow_nil _ _ _ _, (fun _ h => by cases h), by (repeat' (first | with_reducible exact Below.refl _ _ | with_reducible assumption | with_reducible refine Below.drew ?_ | with_reducible refine below_drewN' ?_ _ | with_reducible refine Below.alloc ?_ ?_ _ | with_reducible refine Below.setCell ?_ ?_ _ | with_reducible refine below_step (by assumption) ?_ ?_ | omega | (simp; done) | (simp; omega)))⟩
  case round =>
    obtain ⟨k, C, hk, rfl, hC, hown, hM, hB⟩ := hrel
    obtain ⟨hcB, hfB⟩ := bcell hB
    have hbz := hB.size
    have Hown := Lib.hid hown
    have HB := Lib.hid hB
    have HC := Lib.hid hC
    have HM := Lib.hid hM
    have hcl : C.length = k := by have := nrm_len hC; rw [List.length_take] at this; have := Hln.out; omega
    have Hcl := Lib.hid hcl
    clear hown hC hM hcl
    by_cases hlt : k < n
    · skip
      obtain ⟨x, hx⟩ := mem_at (l := xs) (k := k) (by rw [Hln.out]; exact hlt)
      have Hx := Lib.hid hx
      obtain ⟨b, off, rfl, hb, hc⟩ := HFW.out (by rw [Hln.out]; omega)
      have hbw : b < wr.heap.size := by omega
      obtain ⟨c0, c1, c2, c3, c4, c5, c6, c7, c8, c9, c10, c11, c12, c13, c14⟩ := grow_cells (hc k x hx)
      clear hc hx
      have HG1 := Lib.hid (fun V (hV : Below wr.heap.size wr V) => groups1_any x V ((HA.out x (List.mem_of_getElem? Hx.out)).mono (HW.out.trans ((HB.out.mono hWz).trans (hV.mono (by omega))))) (HL.out x (List.mem_of_getElem? Hx.out)).1 (HL.out x (List.mem_of_getElem? Hx.out)).2)
      have hc3 : C.length + 1 ≤ maxLen := by have := Hcl.out; unfold maxLen; omega
      have hc4 : (C.length + 1) * 176 ≤ 140737488355328 := by have := Hcl.out; omega
      go_wp2_with (first
        | (go_at_call 50; (with_reducible refine (HG1.out _ (by (repeat' (first | with_reducible exact Below.refl _ _ | with_reducible assumption | with_reducible refine Below.drew ?_ | with_reducible refine below_drewN' ?_ _ | with_reducible refine Below.alloc ?_ ?_ _ | with_reducible refine Below.setCell ?_ ?_ _ | with_reducible refine below_step (by assumption) ?_ ?_ | omega | (simp; done) | (simp; omega))))).mono ?_); rintro e w5 ⟨⟨g', hn, rfl, hm5⟩, hb5⟩; have hz5 := hb5.size; (try simp at hz5); have HN5 := Lib.hid hn; have HM5 := Lib.hid (hm5.less (base' := W.heap.size) (by simp; omega)); have HOx := Lib.hid (own_kept (Hown.out.alloc _) hb5); have HBx := Lib.hid (show Below W.heap.size W w5 by (repeat' (first | with_reducible exact Below.refl _ _ | with_reducible assumption | with_reducible refine Below.drew ?_ | with_reducible refine below_drewN' ?_ _ | with_reducible refine Below.alloc ?_ ?_ _ | with_reducible refine Below.setCell ?_ ?_ _ | with_reducible refine below_step (by assumption) ?_ ?_ | omega | (simp; done) | (simp; omega)))); have HMx := Lib.hid (show ∀ g ∈ C, MO w5 W.heap.size g.like from fun g hg => ((HM.out g hg).kept (((Below.refl _ _).alloc (Nat.le_refl _) _))).kept hb5); have hbx := HBx.out.size; clear hn hm5)
        | (at_builtin; refine wpList_append_own _ rfl (.tmp 14) (.tmp 18) 22 rfl W.heap.size 37 i0 _ 15 176 Tryz.underlying22 Hi.out Hz0.out Hz1.out Hz2.out rfl (by decide) _ C.length (C.flatMap grow) rfl (HOx.out.alloc _) ⟨w5.heap.size, 0, none⟩ 1 1 (grow g') rfl rfl (news_at _ _ _) (grow_one g') hc3 hc4 (le_alloc hbx _) ?_; intro v1 w1 hown1 hgrow1 _; have hB1 := own_below (HOx.out.alloc _) (HBx.out.alloc hbx _) (le_alloc hbx _) hgrow1; have HO1 := Lib.hid hown1; have HM1 := Lib.hid (show ∀ g ∈ C ++ [g'], MO w1 W.heap.size g.like from fun g hg => MO.grown (by rcases List.mem_append.1 hg with hg | hg; exact (HMx.out g hg).kept ((Below.refl _ _).alloc (Nat.le_refl _) _); (rw [List.mem_singleton.1 hg]; exact HM5.out.kept ((Below.refl _ _).alloc (Nat.le_refl _) _))) (HOx.out.alloc _) hgrow1); clear hown1 hgrow1))
      go_roundw
      case rel => exact ⟨k + 1, C ++ [g'], by omega, by go_num, by rw [List.map_append, HC.out, take_at Hx.out, List.map_append, List.map_cons, List.map_nil, List.map_cons, List.map_nil, HN5.out], by (have h9 := HO1.out; have e9 : (C ++ [g']).flatMap grow = C.flatMap grow ++ grow g' := (by rw [List.flatMap_append, List.flatMap_cons, List.flatMap_nil, List.append_nil]); rw [e9, List.length_append]; exact h9), HM1.out, hB1⟩
      case measure => simp [intOf]; omega
    · obtain rfl : k = n := by omega
      have hC9 : C.map nrm = xs.map nrm := by rw [HC.out, List.take_of_length_le (Nat.le_of_eq Hln.out)]
      have HC9 := Lib.hid hC9
      clear hC9
      go_wp2
      refine bodyPost_ret (by simp [results, Tryz.results49, go_sem]) rfl ⟨⟨_, C, rfl, HC9.out, OwnL.mono Hown.out hWz, fun g hg => (HM.out g hg).less hWz⟩, HW.out.trans (HB.out.mono hWz)⟩
set_option maxRecDepth 100000 in
set_option maxHeartbeats 4000000 in
theorem groups_any (c : Option Addr) (kc : Nat) (xs : List Gp) (w : World) (hF : GpL w c xs) (hA : ∀ g ∈ xs, MacIn w g.like) (hl : ∀ g ∈ xs, g.like.labs.length ≤ 1000000 ∧ g.like.tnts.length ≤ 1000000) (hm : xs.length ≤ 1000000) :
    Calls Tryz.prog 27 #[.slice c xs.length kc] w fun e w' => (∃ v C, e = .returned v ∧ C.map nrm = xs.map nrm ∧ OwnL grow 15 w.heap.size 37 C v w' ∧ ∀ g ∈ C, MO w' w.heap.size g.like) ∧ Below w.heap.size w w' := by
  have HC := Lib.hid (eachg_any c kc xs w hF hA hl hm)
  clear hF hA hl
  go_enter Tryz.func27, Tryz.ntmps27
  go_wp2_with (go_at_call 49; (with_reducible refine HC.out.mono ?_); rintro e w1 ⟨⟨v, C, rfl, hC⟩, hb⟩)
  refine bodyPost_ret (by simp [results, Tryz.results27, go_sem]) rfl ⟨⟨v, C, rfl, hC⟩, hb⟩
end Go.Proofs.YtmkdfcggjlhcpaaGreatDoor
namespace Go.Proofs.YtmkdfcggjlhcpaaGreatDoor
open Go.RowKit
set_option linter.unusedVariables false
set_option linter.unusedSimpArgs false
def mcs (m : Mac) : List Value := [.string m.nm, .string m.gp, .int .i64 m.r0, .int .i64 m.r1, .int .i64 m.r2, .int .i64 m.r3, .int .i64 m.r4, .slice m.la m.labs.length m.lk, .slice m.ta m.tnts.length m.tk, .bool m.rd]
theorem mcs_len (m : Mac) : (mcs m).length = 10 := rfl
theorem mcs_one (m : Mac) : ∀ u ∈ mcs m, u.oneCell' = true := by
  intro u hu
  simp only [mcs, List.mem_cons, List.not_mem_nil, or_false] at hu
  rcases hu with rfl | rfl | rfl | rfl | rfl | rfl | rfl | rfl | rfl | rfl <;> rfl
abbrev MacsAt := RowsAt mcs 10
theorem mac_cells {w : World} {b o : Nat} {m : Mac} (h : ∀ r, r < 10 → w.cell? ⟨b, o + r, none⟩ = (mcs m)[r]?) :
    w.cell? ⟨b, o, none⟩ = some (.string m.nm) ∧ w.cell? ⟨b, o + 1, none⟩ = some (.string m.gp) ∧ w.cell? ⟨b, o + 2, none⟩ = some (.int .i64 m.r0) ∧ w.cell? ⟨b, o + 3, none⟩ = some (.int .i64 m.r1) ∧
    w.cell? ⟨b, o + 4, none⟩ = some (.int .i64 m.r2) ∧ w.cell? ⟨b, o + 5, none⟩ = some (.int .i64 m.r3) ∧ w.cell? ⟨b, o + 6, none⟩ = some (.int .i64 m.r4) ∧ w.cell? ⟨b, o + 7, none⟩ = some (.slice m.la m.labs.length m.lk) ∧
    w.cell? ⟨b, o + 8, none⟩ = some (.slice m.ta m.tnts.length m.tk) ∧ w.cell? ⟨b, o + 9, none⟩ = some (.bool m.rd) :=
  ⟨h 0 (by decide), h 1 (by decide), h 2 (by decide), h 3 (by decide), h 4 (by decide), h 5 (by decide), h 6 (by decide), h 7 (by decide), h 8 (by decide), h 9 (by decide)⟩
def amt (q : Nat) (m : Mac) : Int := if q = 0 then 1 else if q = 1 then m.r0 else m.r1
def roomL : Int → List Int → Int
  | r, [] => r
  | r, a :: l => if r - a < 0 then r - a else roomL (r - a) l
set_option maxRecDepth 100000 in
set_option maxHeartbeats 4000000 in
theorem room0_any (most : Int) (h0 : 0 ≤ most) (h1 : most ≤ 288230376151711744) (c : Option Addr) (kc : Nat) (ms : List Mac) (w : World) (hF : MacsAt w c ms) (hb : ∀ x ∈ ms, 0 ≤ amt 0 x ∧ amt 0 x ≤ 576460752303423488) (hm : ms.length ≤ 1000000) :
    Calls Tryz.prog 94 #[.agg #[.int .i64 most, .func (.func 102) #[] #[]], .slice c ms.length kc] w fun e w' => e = .returned (.int .i64 (roomL most (ms.map (amt 0)))) ∧ Below w.heap.size w w' := by
  have HF := Lib.hid hF
  have Hb := Lib.hid hb
  clear hF hb
  obtain ⟨n, hln⟩ : ∃ n, ms.length = n := ⟨_, rfl⟩
  rw [hln] at hm ⊢
  have Hln := Lib.hid hln
  clear hln
  go_enter Tryz.func94, Tryz.ntmps94
  go_wp2
  obtain ⟨W, hW⟩ : ∃ W, W = w.alloc (.cells #[.int .i64 most, .func (.func 102) #[] #[]] 143) := ⟨_, rfl⟩
  have HW := Lib.hid (show Below w.heap.size w W by rw [hW]; (repeat' (first | with_reducible exact Below.refl _ _ | with_reducible assumption | with_reducible refine Below.drew ?_ | with_reducible refine below_drewN' ?_ _ | with_reducible refine Below.alloc ?_ ?_ _ | with_reducible refine Below.setCell ?_ ?_ _ | with_reducible refine below_step (by assumption) ?_ ?_ | omega | (simp; done) | (simp; omega))))
  have hWz : w.heap.size < W.heap.size := by rw [hW]; simp
  have s0 : W.cell? ⟨w.heap.size, 0, none⟩ = some (.int .i64 most) := by rw [hW]; simp [go_sem]
  have s1 : W.cell? ⟨w.heap.size, 1, none⟩ = some (.func (.func 102) #[] #[]) := by rw [hW]; simp [go_sem]
  have HFW := Lib.hid (HF.out.mono HW.out)
  rw [← hW]
  clear hW
  go_loopw [5, 12] (fun v i wr => ∃ (k : Nat) (r : Int), k ≤ n ∧ i = .int .i64 k ∧ v = .int .i64 r ∧ 0 ≤ r ∧ r ≤ 288230376151711744 ∧ roomL most (ms.map (amt 0)) = roomL r ((ms.drop k).map (amt 0)) ∧ Below W.heap.size W wr) (fun _ i _ => n - (intOf i).toNat)
  case atStart => exact ⟨0, most, Nat.zero_le _, rfl, rfl, h0, h1, by rw [List.drop_zero], by (repeat' (first | with_reducible exact Below.refl _ _ | with_reducible assumption | with_reducible refine Below.drew ?_ | with_reducible refine below_drewN' ?_ _ | with_reducible refine Below.alloc ?_ ?_ _ | with_reducible refine Below.setCell ?_ ?_ _ | with_reducible refine below_step (by assumption) ?_ ?_ | omega | (simp; done) | (simp; omega)))⟩
  case round =>
    obtain ⟨k, r, hk, rfl, rfl, hr0, hr1, hE, hB⟩ := hrel
    obtain ⟨hcB, hfB⟩ := bcell hB
    have hbz := hB.size
    have HE := Lib.hid hE
    have HB := Lib.hid hB
    clear hE
    by_cases hlt : k < n
    · obtain ⟨x, hx⟩ := mem_at (l := ms) (k := k) (by rw [Hln.out]; exact hlt)
      obtain ⟨b, off, rfl, hb, hc⟩ := HFW.out (by rw [Hln.out]; omega)
      have hbw : b < wr.heap.size := by omega
      have hww : w.heap.size < wr.heap.size := by omega
      obtain ⟨c0, c1, c2, c3, c4, c5, c6, c7, c8, c9⟩ := mac_cells (hc k x hx)
      have ha := Hb.out x (List.mem_of_getElem? hx)
      have hdr : (ms.drop k).map (amt 0) = amt 0 x :: (ms.drop (k + 1)).map (amt 0) := by
        obtain ⟨hkl, rfl⟩ := List.getElem?_eq_some_iff.1 hx
        rw [List.drop_eq_getElem_cons hkl, List.map_cons]
      have hE2 := HE.out
      rw [hdr, roomL] at hE2
      simp only [amt, if_true, if_false, Nat.one_ne_zero, (by decide : ¬ (2 : Nat) = 0), (by decide : ¬ (2 : Nat) = 1)] at hE2 ha
      clear hc hx hdr
      by_cases hneg : r - 1 < 0
      · rw [if_pos hneg] at hE2
        have H2 := Lib.hid hE2
        clear hE2
        go_wp2
        go_ret
        exact ⟨by rw [H2.out]; rfl, HW.out.trans (HB.out.mono (Nat.le_of_lt hWz) |>.trans (by (repeat' (first | with_reducible exact Below.refl _ _ | with_reducible assumption | with_reducible refine Below.drew ?_ | with_reducible refine below_drewN' ?_ _ | with_reducible refine Below.alloc ?_ ?_ _ | with_reducible refine Below.setCell ?_ ?_ _ | with_reducible refine below_step (by assumption) ?_ ?_ | omega | (simp; done) | (simp; omega)))))⟩
      · rw [if_neg hneg] at hE2
        have H2 := Lib.hid hE2
        clear hE2
        go_wp2
        go_roundw
        case rel => exact ⟨k + 1, r - 1, by omega, by go_num, by go_num, by omega, by omega, H2.out, by (repeat' (first | with_reducible exact Below.refl _ _ | with_reducible assumption | with_reducible refine Below.drew ?_ | with_reducible refine below_drewN' ?_ _ | with_reducible refine Below.alloc ?_ ?_ _ | with_reducible refine Below.setCell ?_ ?_ _ | with_reducible refine below_step (by assumption) ?_ ?_ | omega | (simp; done) | (simp; omega)))⟩
        case measure => simp [intOf]; omega
    · obtain rfl : k = n := by omega
      have H2 := Lib.hid (show roomL most (ms.map (amt 0)) = r by rw [HE.out, List.drop_of_length_le (Nat.le_of_eq Hln.out)]; rfl)
      go_wp2
      go_ret
      exact ⟨by rw [H2.out]; rfl, HW.out.trans (HB.out.mono (Nat.le_of_lt hWz))⟩
set_option maxRecDepth 100000 in
set_option maxHeartbeats 4000000 in
theorem room1_any (most : Int) (h0 : 0 ≤ most) (h1 : most ≤ 288230376151711744) (c : Option Addr) (kc : Nat) (ms : List Mac) (w : World) (hF : MacsAt w c ms) (hb : ∀ x ∈ ms, 0 ≤ amt 1 x ∧ amt 1 x ≤ 576460752303423488) (hm : ms.length ≤ 1000000) :
    Calls Tryz.prog 94 #[.agg #[.int .i64 most, .func (.func 103) #[] #[]], .slice c ms.length kc] w fun e w' => e = .returned (.int .i64 (roomL most (ms.map (amt 1)))) ∧ Below w.heap.size w w' := by
  have HF := Lib.hid hF
  have Hb := Lib.hid hb
  clear hF hb
  obtain ⟨n, hln⟩ : ∃ n, ms.length = n := ⟨_, rfl⟩
  rw [hln] at hm ⊢
  have Hln := Lib.hid hln
  clear hln
  go_enter Tryz.func94, Tryz.ntmps94
  go_wp2
  obtain ⟨W, hW⟩ : ∃ W, W = w.alloc (.cells #[.int .i64 most, .func (.func 103) #[] #[]] 143) := ⟨_, rfl⟩
  have HW := Lib.hid (show Below w.heap.size w W by rw [hW]; (repeat' (first | with_reducible exact Below.refl _ _ | with_reducible assumption | with_reducible refine Below.drew ?_ | with_reducible refine below_drewN' ?_ _ | with_reducible refine Below.alloc ?_ ?_ _ | with_reducible refine Below.setCell ?_ ?_ _ | with_reducible refine below_step (by assumption) ?_ ?_ | omega | (simp; done) | (simp; omega))))
  have hWz : w.heap.size < W.heap.size := by rw [hW]; simp
  have s0 : W.cell? ⟨w.heap.size, 0, none⟩ = some (.int .i64 most) := by rw [hW]; simp [go_sem]
  have s1 : W.cell? ⟨w.heap.size, 1, none⟩ = some (.func (.func 103) #[] #[]) := by rw [hW]; simp [go_sem]
  have HFW := Lib.hid (HF.out.mono HW.out)
  rw [← hW]
  clear hW
  go_loopw [5, 12] (fun v i wr => ∃ (k : Nat) (r : Int), k ≤ n ∧ i = .int .i64 k ∧ v = .int .i64 r ∧ 0 ≤ r ∧ r ≤ 288230376151711744 ∧ roomL most (ms.map (amt 1)) = roomL r ((ms.drop k).map (amt 1)) ∧ Below W.heap.size W wr) (fun _ i _ => n - (intOf i).toNat)
  case atStart => exact ⟨0, most, Nat.zero_le _, rfl, rfl, h0, h1, by rw [List.drop_zero], by (repeat' (first | with_reducible exact Below.refl _ _ | with_reducible assumption | with_reducible refine Below.drew ?_ | with_reducible refine below_drewN' ?_ _ | with_reducible refine Below.alloc ?_ ?_ _ | with_reducible refine Below.setCell ?_ ?_ _ | with_reducible refine below_step (by assumption) ?_ ?_ | omega | (simp; done) | (simp; omega)))⟩
  case round =>
    obtain ⟨k, r, hk, rfl, rfl, hr0, hr1, hE, hB⟩ := hrel
    obtain ⟨hcB, hfB⟩ := bcell hB
    have hbz := hB.size
    have HE := Lib.hid hE
    have HB := Lib.hid hB
    clear hE
    by_cases hlt : k < n
    · obtain ⟨x, hx⟩ := mem_at (l := ms) (k := k) (by rw [Hln.out]; exact hlt)
      obtain ⟨b, off, rfl, hb, hc⟩ := HFW.out (by rw [Hln.out]; omega)
      have hbw : b < wr.heap.size := by omega
      have hww : w.heap.size < wr.heap.size := by omega
      obtain ⟨c0, c1, c2, c3, c4, c5, c6, c7, c8, c9⟩ := mac_cells (hc k x hx)
      have ha := Hb.out x (List.mem_of_getElem? hx)
      have hdr : (ms.drop k).map (amt 1) = amt 1 x :: (ms.drop (k + 1)).map (amt 1) := by
        obtain ⟨hkl, rfl⟩ := List.getElem?_eq_some_iff.1 hx
        rw [List.drop_eq_getElem_cons hkl, List.map_cons]
      have hE2 := HE.out
      rw [hdr, roomL] at hE2
      simp only [amt, if_true, if_false, Nat.one_ne_zero, (by decide : ¬ (2 : Nat) = 0), (by decide : ¬ (2 : Nat) = 1)] at hE2 ha
      clear hc hx hdr
      by_cases hneg : r - x.r0 < 0
      · rw [if_pos hneg] at hE2
        have H2 := Lib.hid hE2
        clear hE2
        go_wp2
        go_ret
        exact ⟨by rw [H2.out]; rfl, HW.out.trans (HB.out.mono (Nat.le_of_lt hWz) |>.trans (by (repeat' (first | with_reducible exact Below.refl _ _ | with_reducible assumption | with_reducible refine Below.drew ?_ | with_reducible refine below_drewN' ?_ _ | with_reducible refine Below.alloc ?_ ?_ _ | with_reducible refine Below.setCell ?_ ?_ _ | with_reducible refine below_step (by assumption) ?_ ?_ | omega | (simp; done) | (simp; omega)))))⟩
      · rw [if_neg hneg] at hE2
        have H2 := Lib.hid hE2
        clear hE2
        go_wp2
        go_roundw
        case rel => exact ⟨k + 1, r - x.r0, by omega, by go_num, by go_num, by omega, by omega, H2.out, by (repeat' (first | with_reducible exact Below.refl _ _ | with_reducible assumption | with_reducible refine Below.drew ?_ | with_reducible refine below_drewN' ?_ _ | with_reducible refine Below.alloc ?_ ?_ _ | with_reducible refine Below.setCell ?_ ?_ _ | with_reducible refine below_step (by assumption) ?_ ?_ | omega | (simp; done) | (simp; omega)))⟩
        case measure => simp [intOf]; omega
    · obtain rfl : k = n := by omega
      have H2 := Lib.hid (show roomL most (ms.map (amt 1)) = r by rw [HE.out, List.drop_of_length_le (Nat.le_of_eq Hln.out)]; rfl)
      go_wp2
      go_ret
      exact ⟨by rw [H2.out]; rfl, HW.out.trans (HB.out.mono (Nat.le_of_lt hWz))⟩
set_option maxRecDepth 100000 in
set_option maxHeartbeats 4000000 in
theorem room2_any (most : Int) (h0 : 0 ≤ most) (h1 : most ≤ 288230376151711744) (c : Option Addr) (kc : Nat) (ms : List Mac) (w : World) (hF : MacsAt w c ms) (hb : ∀ x ∈ ms, 0 ≤ amt 2 x ∧ amt 2 x ≤ 576460752303423488) (hm : ms.length ≤ 1000000) :
    Calls Tryz.prog 94 #[.agg #[.int .i64 most, .func (.func 104) #[] #[]], .slice c ms.length kc] w fun e w' => e = .returned (.int .i64 (roomL most (ms.map (amt 2)))) ∧ Below w.heap.size w w' := by
  have HF := Lib.hid hF
  have Hb := Lib.hid hb
  clear hF hb
  obtain ⟨n, hln⟩ : ∃ n, ms.length = n := ⟨_, rfl⟩
  rw [hln] at hm ⊢
  have Hln := Lib.hid hln
  clear hln
  go_enter Tryz.func94, Tryz.ntmps94
  go_wp2
  obtain ⟨W, hW⟩ : ∃ W, W = w.alloc (.cells #[.int .i64 most, .func (.func 104) #[] #[]] 143) := ⟨_, rfl⟩
  have HW := Lib.hid (show Below w.heap.size w W by rw [hW]; (repeat' (first | with_reducible exact Below.refl _ _ | with_reducible assumption | with_reducible refine Below.drew ?_ | with_reducible refine below_drewN' ?_ _ | with_reducible refine Below.alloc ?_ ?_ _ | with_reducible refine Below.setCell ?_ ?_ _ | with_reducible refine below_step (by assumption) ?_ ?_ | omega | (simp; done) | (simp; omega))))
  have hWz : w.heap.size < W.heap.size := by rw [hW]; simp
  have s0 : W.cell? ⟨w.heap.size, 0, none⟩ = some (.int .i64 most) := by rw [hW]; simp [go_sem]
  have s1 : W.cell? ⟨w.heap.size, 1, none⟩ = some (.func (.func 104) #[] #[]) := by rw [hW]; simp [go_sem]
  have HFW := Lib.hid (HF.out.mono HW.out)
  rw [← hW]
  clear hW
  go_loopw [5, 12] (fun v i wr => ∃ (k : Nat) (r : Int), k ≤ n ∧ i = .int .i64 k ∧ v = .int .i64 r ∧ 0 ≤ r ∧ r ≤ 288230376151711744 ∧ roomL most (ms.map (amt 2)) = roomL r ((ms.drop k).map (amt 2)) ∧ Below W.heap.size W wr) (fun _ i _ => n - (intOf i).toNat)
  case atStart => exact ⟨0, most, Nat.zero_le _, rfl, rfl, h0, h1, by rw [List.drop_zero], by (repeat' (first | with_reducible exact Below.refl _ _ | with_reducible assumption | with_reducible refine Below.drew ?_ | with_reducible refine below_drewN' ?_ _ | with_reducible refine Below.alloc ?_ ?_ _ | with_reducible refine Below.setCell ?_ ?_ _ | with_reducible refine below_step (by assumption) ?_ ?_ | omega | (simp; done) | (simp; omega)))⟩
  case round =>
    obtain ⟨k, r, hk, rfl, rfl, hr0, hr1, hE, hB⟩ := hrel
    obtain ⟨hcB, hfB⟩ := bcell hB
    have hbz := hB.size
    have HE := Lib.hid hE
    have HB := Lib.hid hB
    clear hE
    by_cases hlt : k < n
    · obtain ⟨x, hx⟩ := mem_at (l := ms) (k := k) (by rw [Hln.out]; exact hlt)
      obtain ⟨b, off, rfl, hb, hc⟩ := HFW.out (by rw [Hln.out]; omega)
      have hbw : b < wr.heap.size := by omega
      have hww : w.heap.size < wr.heap.size := by omega
      obtain ⟨c0, c1, c2, c3, c4, c5, c6, c7, c8, c9⟩ := mac_cells (hc k x hx)
      have ha := Hb.out x (List.mem_of_getElem? hx)
      have hdr : (ms.drop k).map (amt 2) = amt 2 x :: (ms.drop (k + 1)).map (amt 2) := by
        obtain ⟨hkl, rfl⟩ := List.getElem?_eq_some_iff.1 hx
        rw [List.drop_eq_getElem_cons hkl, List.map_cons]
      have hE2 := HE.out
      rw [hdr, roomL] at hE2
      simp only [amt, if_true, if_false, Nat.one_ne_zero, (by decide : ¬ (2 : Nat) = 0), (by decide : ¬ (2 : Nat) = 1)] at hE2 ha
      clear hc hx hdr
      by_cases hneg : r - x.r1 < 0
      · rw [if_pos hneg] at hE2
        have H2 := Lib.hid hE2
        clear hE2
        go_wp2
        go_ret
        exact ⟨by rw [H2.out]; rfl, HW.out.trans (HB.out.mono (Nat.le_of_lt hWz) |>.trans (by (repeat' (first | with_reducible exact Below.refl _ _ | with_reducible assumption | with_reducible refine Below.drew ?_ | with_reducible refine below_drewN' ?_ _ | with_reducible refine Below.alloc ?_ ?_ _ | with_reducible refine Below.setCell ?_ ?_ _ | with_reducible refine below_step (by assumption) ?_ ?_ | omega | (simp; done) | (simp; omega)))))⟩
      · rw [if_neg hneg] at hE2
        have H2 := Lib.hid hE2
        clear hE2
        go_wp2
        go_roundw
        case rel => exact ⟨k + 1, r - x.r1, by omega, by go_num, by go_num, by omega, by omega, H2.out, by (repeat' (first | with_reducible exact Below.refl _ _ | with_reducible assumption | with_reducible refine Below.drew ?_ | with_reducible refine below_drewN' ?_ _ | with_reducible refine Below.alloc ?_ ?_ _ | with_reducible refine Below.setCell ?_ ?_ _ | with_reducible refine below_step (by assumption) ?_ ?_ | omega | (simp; done) | (simp; omega)))⟩
        case measure => simp [intOf]; omega
    · obtain rfl : k = n := by omega
      have H2 := Lib.hid (show roomL most (ms.map (amt 2)) = r by rw [HE.out, List.drop_of_length_le (Nat.le_of_eq Hln.out)]; rfl)
      go_wp2
      go_ret
      exact ⟨by rw [H2.out]; rfl, HW.out.trans (HB.out.mono (Nat.le_of_lt hWz))⟩
def capB (n : Int) : Bool := decide (0 ≤ n ∧ n ≤ 288230376151711744)
def rightC (c0 c1 c2 : Int) : Bool := capB c0 && capB c1 && capB c2
def keepB (q : Nat) (c : Int) (ms : List Mac) : Bool := decide (c = 0) || !decide (roomL c (ms.map (amt q)) < 0)
def withinB (c0 c1 c2 : Int) (ms : List Mac) : Bool := keepB 0 c0 ms && keepB 1 c1 ms && keepB 2 c2 ms
theorem keep_cases (q : Nat) (c : Int) (ms : List Mac) : ((c != 0) = false ∧ keepB q c ms = true) ∨ ((c != 0) = true ∧ roomL c (ms.map (amt q)) < 0 ∧ keepB q c ms = false) ∨ ((c != 0) = true ∧ 0 ≤ roomL c (ms.map (amt q)) ∧ keepB q c ms = true) := by
  unfold keepB
  by_cases h : c = 0
  · exact .inl ⟨by simp [h], by simp [h]⟩
  · by_cases h2 : roomL c (ms.map (amt q)) < 0
    · exact .inr (.inl ⟨by simpa using h, h2, by simp [h, h2]⟩)
    · exact .inr (.inr ⟨by simpa using h, by omega, by simp [h, h2]⟩)
def MacsOk (ms : List Mac) : Prop := ∀ x ∈ ms, (0 ≤ x.r0 ∧ x.r0 ≤ 576460752303423488) ∧ (0 ≤ x.r1 ∧ x.r1 ≤ 576460752303423488)
theorem MacsOk.amt0 {ms : List Mac} (h : MacsOk ms) : ∀ x ∈ ms, 0 ≤ amt 0 x ∧ amt 0 x ≤ 576460752303423488 := fun x hx => by simp [amt]
theorem MacsOk.amt1 {ms : List Mac} (h : MacsOk ms) : ∀ x ∈ ms, 0 ≤ amt 1 x ∧ amt 1 x ≤ 576460752303423488 := fun x hx => by simpa [amt] using (h x hx).1
theorem MacsOk.amt2 {ms : List Mac} (h : MacsOk ms) : ∀ x ∈ ms, 0 ≤ amt 2 x ∧ amt 2 x ≤ 576460752303423488 := fun x hx => by simpa [amt] using (h x hx).2
set_option maxRecDepth 100000 in
set_option maxHeartbeats 8000000 in
theorem capwithin_any (c0 c1 c2 : Int) (hc : rightC c0 c1 c2 = true) (c : Option Addr) (kc : Nat) (ms : List Mac) (w : World) (hF : MacsAt w c ms) (hok : MacsOk ms) (hm : ms.length ≤ 1000000) :
    Calls Tryz.prog 85 #[.agg #[.int .i64 c0, .int .i64 c1, .int .i64 c2], .slice c ms.length kc] w fun e w' => e = .returned (.bool (withinB c0 c1 c2 ms)) ∧ Below w.heap.size w w' := by
  unfold rightC capB at hc
  rw [Bool.and_eq_true, Bool.and_eq_true, decide_eq_true_eq, decide_eq_true_eq, decide_eq_true_eq] at hc
  obtain ⟨⟨⟨l0, u0⟩, l1, u1⟩, l2, u2⟩ := hc
  have HF := Lib.hid hF
  have Hok := Lib.hid hok
  clear hF hok
  unfold withinB
  obtain ⟨r0, e0⟩ : ∃ r, roomL c0 (ms.map (amt 0)) = r := ⟨_, rfl⟩
  obtain ⟨r1, e1⟩ : ∃ r, roomL c1 (ms.map (amt 1)) = r := ⟨_, rfl⟩
  obtain ⟨r2, e2⟩ : ∃ r, roomL c2 (ms.map (amt 2)) = r := ⟨_, rfl⟩
  have k0 := keep_cases 0 c0 ms
  have k1 := keep_cases 1 c1 ms
  have k2 := keep_cases 2 c2 ms
  rw [e0] at k0
  rw [e1] at k1
  rw [e2] at k2
  have E0 := Lib.hid e0
  have E1 := Lib.hid e1
  have E2 := Lib.hid e2
  clear e0 e1 e2
  rcases k0 with ⟨a1, h0⟩ | ⟨a1, a2, h0⟩ | ⟨a1, a2, h0⟩
  rotate_left
  · rw [h0]
    clear h0 k1 k2
    go_enter Tryz.func85, Tryz.ntmps85
    go_wp2
    refine wp_loop_rounds 6 ?_
    iterate 6 ((try rw [rounds_succ]); (try go_wp2_with (first
    | ((with_reducible refine (room0_any c0 l0 u0 c kc ms _ (HF.out.mono (by (repeat' (first | with_reducible exact Below.refl _ _ | with_reducible assumption | with_reducible refine Below.drew ?_ | with_reducible refine below_drewN' ?_ _ | with_reducible refine Below.alloc ?_ ?_ _ | with_reducible refine Below.setCell ?_ ?_ _ | with_reducible refine below_step (by assumption) ?_ ?_ | omega | (simp; done) | (simp; omega))))) Hok.out.amt0 hm).mono ?_); rw [E0.out]; rintro e w5 ⟨rfl, hb5⟩; have hz5 := hb5.size; (try simp at hz5); obtain ⟨hc5, hf5⟩ := bcell hb5; have hx5 : w.heap.size + 1 < w5.heap.size := (by omega); have hy5 : w.heap.size + 1 + 1 < w5.heap.size := (by omega))
    | ((with_reducible refine (room1_any c1 l1 u1 c kc ms _ (HF.out.mono (by (repeat' (first | with_reducible exact Below.refl _ _ | with_reducible assumption | with_reducible refine Below.drew ?_ | with_reducible refine below_drewN' ?_ _ | with_reducible refine Below.alloc ?_ ?_ _ | with_reducible refine Below.setCell ?_ ?_ _ | with_reducible refine below_step (by assumption) ?_ ?_ | omega | (simp; done) | (simp; omega))))) Hok.out.amt1 hm).mono ?_); rw [E1.out]; rintro e w6 ⟨rfl, hb6⟩; have hz6 := hb6.size; (try simp at hz6); obtain ⟨hc6, hf6⟩ := bcell hb6; have hx6 : w.heap.size + 1 < w6.heap.size := (by omega); have hy6 : w.heap.size + 1 + 1 < w6.heap.size := (by omega))
    | ((with_reducible refine (room2_any c2 l2 u2 c kc ms _ (HF.out.mono (by (repeat' (first | with_reducible exact Below.refl _ _ | with_reducible assumption | with_reducible refine Below.drew ?_ | with_reducible refine below_drewN' ?_ _ | with_reducible refine Below.alloc ?_ ?_ _ | with_reducible refine Below.setCell ?_ ?_ _ | with_reducible refine below_step (by assumption) ?_ ?_ | omega | (simp; done) | (simp; omega))))) Hok.out.amt2 hm).mono ?_); rw [E2.out]; rintro e w7 ⟨rfl, hb7⟩; have hz7 := hb7.size; (try simp at hz7); obtain ⟨hc7, hf7⟩ := bcell hb7; have hx7 : w.heap.size + 1 < w7.heap.size := (by omega); have hy7 : w.heap.size + 1 + 1 < w7.heap.size := (by omega)))))
    go_ret
    exact ⟨rfl, by (repeat' (first | with_reducible exact Below.refl _ _ | with_reducible assumption | with_reducible refine Below.drew ?_ | with_reducible refine below_drewN' ?_ _ | with_reducible refine Below.alloc ?_ ?_ _ | with_reducible refine Below.setCell ?_ ?_ _ | with_reducible refine below_step (by assumption) ?_ ?_ | omega | (simp; done) | (simp; omega)))⟩
  all_goals
    rcases k1 with ⟨b1, h1⟩ | ⟨b1, b2, h1⟩ | ⟨b1, b2, h1⟩
    rotate_left
    · rw [h0, h1]
      clear h0 h1 k2
      go_enter Tryz.func85, Tryz.ntmps85
      go_wp2
      refine wp_loop_rounds 6 ?_
      iterate 6 ((try rw [rounds_succ]); (try go_wp2_with (first
      | ((with_reducible refine (room0_any c0 l0 u0 c kc ms _ (HF.out.mono (by (repeat' (first | with_reducible exact Below.refl _ _ | with_reducible assumption | with_reducible refine Below.drew ?_ | with_reducible refine below_drewN' ?_ _ | with_reducible refine Below.alloc ?_ ?_ _ | with_reducible refine Below.setCell ?_ ?_ _ | with_reducible refine below_step (by assumption) ?_ ?_ | omega | (simp; done) | (simp; omega))))) Hok.out.amt0 hm).mono ?_); rw [E0.out]; rintro e w5 ⟨rfl, hb5⟩; have hz5 := hb5.size; (try simp at hz5); obtain ⟨hc5, hf5⟩ := bcell hb5; have hx5 : w.heap.size + 1 < w5.heap.size := (by omega); have hy5 : w.heap.size + 1 + 1 < w5.heap.size := (by omega))
      | ((with_reducible refine (room1_any c1 l1 u1 c kc ms _ (HF.out.mono (by (repeat' (first | with_reducible exact Below.refl _ _ | with_reducible assumption | with_reducible refine Below.drew ?_ | with_reducible refine below_drewN' ?_ _ | with_reducible refine Below.alloc ?_ ?_ _ | with_reducible refine Below.setCell ?_ ?_ _ | with_reducible refine below_step (by assumption) ?_ ?_ | omega | (simp; done) | (simp; omega))))) Hok.out.amt1 hm).mono ?_); rw [E1.out]; rintro e w6 ⟨rfl, hb6⟩; have hz6 := hb6.size; (try simp at hz6); obtain ⟨hc6, hf6⟩ := bcell hb6; have hx6 : w.heap.size + 1 < w6.heap.size := (by omega); have hy6 : w.heap.size + 1 + 1 < w6.heap.size := (by omega))
      | ((with_reducible refine (room2_any c2 l2 u2 c kc ms _ (HF.out.mono (by (repeat' (first | with_reducible exact Below.refl _ _ | with_reducible assumption | with_reducible refine Below.drew ?_ | with_reducible refine below_drewN' ?_ _ | with_reducible refine Below.alloc ?_ ?_ _ | with_reducible refine Below.setCell ?_ ?_ _ | with_reducible refine below_step (by assumption) ?_ ?_ | omega | (simp; done) | (simp; omega))))) Hok.out.amt2 hm).mono ?_); rw [E2.out]; rintro e w7 ⟨rfl, hb7⟩; have hz7 := hb7.size; (try simp at hz7); obtain ⟨hc7, hf7⟩ := bcell hb7; have hx7 : w.heap.size + 1 < w7.heap.size := (by omega); have hy7 : w.heap.size + 1 + 1 < w7.heap.size := (by omega)))))
      go_ret
      exact ⟨rfl, by (repeat' (first | with_reducible exact Below.refl _ _ | with_reducible assumption | with_reducible refine Below.drew ?_ | with_reducible refine below_drewN' ?_ _ | with_reducible refine Below.alloc ?_ ?_ _ | with_reducible refine Below.setCell ?_ ?_ _ | with_reducible refine below_step (by assumption) ?_ ?_ | omega | (simp; done) | (simp; omega)))⟩
    all_goals
      rcases k2 with ⟨d1, h2⟩ | ⟨d1, d2, h2⟩ | ⟨d1, d2, h2⟩
      all_goals
        rw [h0, h1, h2]
        clear h0 h1 h2
        go_enter Tryz.func85, Tryz.ntmps85
        go_wp2
        refine wp_loop_rounds 6 ?_
        iterate 6 ((try rw [rounds_succ]); (try go_wp2_with (first
        | ((with_reducible refine (room0_any c0 l0 u0 c kc ms _ (HF.out.mono (by (repeat' (first | with_reducible exact Below.refl _ _ | with_reducible assumption | with_reducible refine Below.drew ?_ | with_reducible refine below_drewN' ?_ _ | with_reducible refine Below.alloc ?_ ?_ _ | with_reducible refine Below.setCell ?_ ?_ _ | with_reducible refine below_step (by assumption) ?_ ?_ | omega | (simp; done) | (simp; omega))))) Hok.out.amt0 hm).mono ?_); rw [E0.out]; rintro e w5 ⟨rfl, hb5⟩; have hz5 := hb5.size; (try simp at hz5); obtain ⟨hc5, hf5⟩ := bcell hb5; have hx5 : w.heap.size + 1 < w5.heap.size := (by omega); have hy5 : w.heap.size + 1 + 1 < w5.heap.size := (by omega))
        | ((with_reducible refine (room1_any c1 l1 u1 c kc ms _ (HF.out.mono (by (repeat' (first | with_reducible exact Below.refl _ _ | with_reducible assumption | with_reducible refine Below.drew ?_ | with_reducible refine below_drewN' ?_ _ | with_reducible refine Below.alloc ?_ ?_ _ | with_reducible refine Below.setCell ?_ ?_ _ | with_reducible refine below_step (by assumption) ?_ ?_ | omega | (simp; done) | (simp; omega))))) Hok.out.amt1 hm).mono ?_); rw [E1.out]; rintro e w6 ⟨rfl, hb6⟩; have hz6 := hb6.size; (try simp at hz6); obtain ⟨hc6, hf6⟩ := bcell hb6; have hx6 : w.heap.size + 1 < w6.heap.size := (by omega); have hy6 : w.heap.size + 1 + 1 < w6.heap.size := (by omega))
        | ((with_reducible refine (room2_any c2 l2 u2 c kc ms _ (HF.out.mono (by (repeat' (first | with_reducible exact Below.refl _ _ | with_reducible assumption | with_reducible refine Below.drew ?_ | with_reducible refine below_drewN' ?_ _ | with_reducible refine Below.alloc ?_ ?_ _ | with_reducible refine Below.setCell ?_ ?_ _ | with_reducible refine below_step (by assumption) ?_ ?_ | omega | (simp; done) | (simp; omega))))) Hok.out.amt2 hm).mono ?_); rw [E2.out]; rintro e w7 ⟨rfl, hb7⟩; have hz7 := hb7.size; (try simp at hz7); obtain ⟨hc7, hf7⟩ := bcell hb7; have hx7 : w.heap.size + 1 < w7.heap.size := (by omega); have hy7 : w.heap.size + 1 + 1 < w7.heap.size := (by omega)))))
        go_ret
        exact ⟨rfl, by (repeat' (first | with_reducible exact Below.refl _ _ | with_reducible assumption | with_reducible refine Below.drew ?_ | with_reducible refine below_drewN' ?_ _ | with_reducible refine Below.alloc ?_ ?_ _ | with_reducible refine Below.setCell ?_ ?_ _ | with_reducible refine below_step (by assumption) ?_ ?_ | omega | (simp; done) | (simp; omega)))⟩
end Go.Proofs.YtmkdfcggjlhcpaaGreatDoor
