/-
  Kin: Groups.
-/
import Derived.Test.YtccplljbljpjpaaDoorKi5
import Derived.Test.YtccplljbljpjpaaDoorSpI
namespace Go.Proofs.YtccplljbljpjpaaDoor
open Go.ChangeShapes Go.WideShapes Go.ChangeAt Go.RowKit
set_option linter.unusedVariables false
set_option linter.unusedSimpArgs false

/-- What Groups gives: nil where something is wrong. -/
def GivesK (w : World) (R : List (List Int) × Int) : Ending → World → Prop :=
  fun e w' => (∃ a c, e = .returned (.tuple #[.slice a R.1.length c, .int .i64 R.2]) ∧ GrL w' a R.1) ∧ Below w.heap.size w w'
theorem GrL.nil (w : World) : GrL w none [] := ⟨[], rfl, RowsAt.nil, fun i v g h => by simp at h⟩
theorem len_all {G : List (List Int)} {k : Nat} (h : ∀ g ∈ G, g.length ≤ k) (i : Nat) (g : List Int) (x : Int) (hg : G[i]? = some g) : ∀ g' ∈ G.set i (g ++ [x]), g'.length ≤ k + 1 := fun g' hg' => by
  obtain ⟨j, hj, e⟩ := List.mem_iff_getElem.1 hg'
  have e2 : (G.set i (g ++ [x]))[j]? = some g' := by rw [List.getElem?_eq_getElem hj, e]
  by_cases hij : j = i
  · subst hij
    rw [List.getElem?_set_self (by simpa using hj)] at e2
    obtain rfl := Option.some.inj e2
    rw [List.length_append]
    have := h g (List.mem_of_getElem? hg)
    show g.length + 1 ≤ k + 1
    omega
  · rw [List.getElem?_set_ne (fun e => hij e.symm)] at e2
    have := h g' (List.mem_of_getElem? e2)
    omega
theorem ne_emp {y : ByteArray} (h : ¬ y = emp) : y.toList.isEmpty = false := by
  rw [← Bool.not_eq_true]
  intro hh
  refine h ((str_inj _ _).1 ?_)
  have h3 : y.toList = [] := by simpa using hh
  rw [h3]
  simp [emp]
theorem key_size {p : Pd} (hL : lightP p = true) : (keyP p).size ≤ 60000000 := by
  cases hr : rightP p with
  | false => rw [key_no hr]; exact Nat.zero_le _
  | true =>
    have h := parts_size (lightP_iff (xP_light hL)) (rtp_of (right_xP hr))
    unfold keyP showP
    rw [if_pos hr, if_pos (right_xP hr), ← show_parts]
    unfold fmB
    rw [ByteArray.size_append, ByteArray.size_append]
    have h3 : (⟨#[41]⟩ : ByteArray).size = 1 := rfl
    have h4 : (⟨#[40]⟩ : ByteArray).size = 1 := rfl
    omega
/-- What the loop that groups holds in memory. -/
structure GS (B kb mb m : Nat) (vo : Value) (vs : List Value) (G : List (List Int)) (f : ByteArray → Option Value) (cs : List Value) (w0 w : World) : Prop where
  o : w.ownsRow B 29 1 vo vs.length vs
  r : RO B vs G w
  m : MapIs Tryd.prog 9 w mb m f
  c : Blk w kb 9 cs
  b : Below B w0 w
  s : B ≤ w.heap.size
  hm : B ≤ mb
section
variable {B kb mb m : Nat} {vo : Value} {vs : List Value} {G : List (List Int)} {f : ByteArray → Option Value} {cs : List Value} {w0 w w' : World}
theorem GS.below (h : GS B kb mb m vo vs G f cs w0 w) (hb : Below w.heap.size w w') : GS B kb mb m vo vs G f cs w0 w' :=
  ⟨own_kept h.o hb, h.r.below hb, h.m.below hb, h.c.below hb, h.b.trans (hb.mono h.s), Nat.le_trans h.s hb.size, h.hm⟩
theorem GS.alloc (h : GS B kb mb m vo vs G f cs w0 w) (o : Obj) : GS B kb mb m vo vs G f cs w0 (w.alloc o) := h.below ((Below.refl _ _).alloc (Nat.le_refl _) o)
theorem GS.put {m' : Nat} {f' : ByteArray → Option Value} (h : GS B kb mb m vo vs G f cs w0 w) (hM : MapIs Tryd.prog 9 w' mb m' f') (hg : w.grownBy w' (some mb)) : GS B kb mb m' vo vs G f' cs w0 w' := by
  refine ⟨h.o.kept hg ?_, h.r.grown hg (fun q e ht => h.m.ne ht (Option.some.inj e)), hM, h.c.same (hg.block kb h.c.lt (fun e => h.m.ne (blk_ty h.c) (Option.some.inj e).symm)), h.b.grown hg h.s (fun q e => by cases e; exact h.hm), Nat.le_trans h.s hg.size, h.hm⟩
  cases hb : vo.ownBlock with
  | none => exact .inl rfl
  | some q => exact .inr fun e => h.m.ne (own_ty h.o hb) (Option.some.inj e).symm
theorem GS.pushed {v' : Value} (h : GS B kb mb m vo vs G f cs w0 w) (hown : w'.ownsRow B 29 1 v' (vs.length + 1) (vs ++ [.slice none 0 0])) (hg : w.grownBy w' vo.ownBlock) : GS B kb mb m v' (vs ++ [.slice none 0 0]) (G ++ [[]]) f cs w0 w' := by
  have hk : ∀ q t, TyAt w q t → t ≠ 29 → some q ≠ vo.ownBlock := fun q t ht hne e => (ht.ne (own_ty h.o e.symm) hne) rfl
  refine ⟨by rw [List.length_append]; exact hown, ?_, h.m.kept hg (fun e => h.m.ne (own_ty h.o e.symm) rfl), h.c.same (hg.block kb h.c.lt (hk kb _ (blk_ty h.c) (by decide))), own_below h.o h.b h.s hg, Nat.le_trans h.s hg.size, h.hm⟩
  refine RO.push (h.r.grown hg fun q e ht => ?_)
  exact hk q _ ht (by decide) e.symm
theorem GS.outer {v v' : Value} {g xs : List Int} (h : GS B kb mb m vo vs G f cs w0 w) {i : Nat} (hv : vs[i]? = some v) (hg : w.grownBy w' v.ownBlock) : w'.ownsRow B 29 1 vo vs.length vs := by
  obtain ⟨g, _, hh⟩ := h.r.at hv
  refine h.o.kept hg ?_
  cases hb : vo.ownBlock with
  | none => exact .inl rfl
  | some q => exact .inr fun e => ((own_ty h.o hb).ne (own_ty hh e.symm) (by decide)) rfl
theorem GS.set {v v' : Value} {g : List Int} {x : Int} {i q c L : Nat} (h : GS B kb mb m (.slice (some ⟨q, 0, none⟩) L c) vs G f cs w0 w) (hL : vs.length = L) (hv : vs[i]? = some v) (hgi : G[i]? = some g) (hg : w.grownBy w' v.ownBlock)
    (ho : w'.ownsRow B 3 1 v' (g.length + 1) (g.map (Value.int .i64) ++ [.int .i64 x])) (hb : v'.ownBlock = v.ownBlock ∨ v'.ownBlock = some w.heap.size) :
    GS B kb mb m (.slice (some ⟨q, 0, none⟩) L c) (vs.set i v') (G.set i (g ++ [x])) f cs w0 (w'.setCell ⟨q, i, none⟩ v') := by
  subst hL
  have hO : w'.ownsRow B 29 1 (.slice (some ⟨q, 0, none⟩) vs.length c) vs.length vs := h.outer (v' := v') (g := g) (xs := g) hv hg
  have hS := hO.stored i v'
  have hin := h.r.own i v g hv hgi
  have hk : ∀ q' t, TyAt w q' t → t ≠ 3 → some q' ≠ v.ownBlock := fun q' t ht hne e => (ht.ne (own_ty hin e.symm) hne) rfl
  have hq : TyAt w' q 29 := own_ty hO rfl
  have hm6 : MapIs Tryd.prog 9 w' mb m f := h.m.kept hg (fun e => h.m.ne (own_ty hin e.symm) rfl)
  have hc6 : Blk w' kb 9 cs := h.c.same (hg.block kb h.c.lt (hk kb _ (blk_ty h.c) (by decide)))
  have hb6 := own_below hin h.b h.s hg
  have hs6 := Nat.le_trans h.s hg.size
  refine ⟨by rw [List.length_set]; exact hS.1, (h.r.set hv hgi hg ho hb).grown hS.2 (fun z e ht => ?_), hm6.kept hS.2 (fun e => hm6.ne hq (Option.some.inj e)), hc6.same (hS.2.block kb hc6.lt (fun e => ((blk_ty hc6).ne hq (by decide)) (Option.some.inj e))), hb6.grown hS.2 hs6 (fun z e => by cases e; exact (hO.lt q rfl).1), Nat.le_trans hs6 hS.2.size, h.hm⟩
  cases e
  exact (hq.ne ht (by decide)) rfl
theorem GS.cell6 {v : Value} {i q c L : Nat} (h : GS B kb mb m (.slice (some ⟨q, 0, none⟩) L c) vs G f cs w0 w) (hL : vs.length = L) (hv : vs[i]? = some v) (hg : w.grownBy w' v.ownBlock) : w'.cell? ⟨q, i, none⟩ = some v ∧ w'.frozen? ⟨q, i, none⟩ = false ∧ q < w'.heap.size := by
  subst hL
  have hO : w'.ownsRow B 29 1 (.slice (some ⟨q, 0, none⟩) vs.length c) vs.length vs := h.outer (v' := v) (g := []) (xs := []) hv hg
  exact ⟨(hO.cellAt i (by have := (List.getElem?_eq_some_iff.1 hv).1; omega)).trans hv, hO.frozenAt i, (hO.lt q rfl).2⟩
theorem GS.cell {v : Value} {i q c L : Nat} (h : GS B kb mb m (.slice (some ⟨q, 0, none⟩) L c) vs G f cs w0 w) (hL : vs.length = L) (hv : vs[i]? = some v) : w.cell? ⟨q, i, none⟩ = some v ∧ q < w.heap.size := by
  subst hL
  exact ⟨(h.o.cellAt i (by have := (List.getElem?_eq_some_iff.1 hv).1; omega)).trans hv, (h.o.lt q rfl).2⟩
theorem GS.up {m' : Nat} (h : GS B kb mb m vo vs G f cs w0 w) (hm : m ≤ m') : GS B kb mb m' vo vs G f cs w0 w := ⟨h.o, h.r, h.m.mono hm, h.c, h.b, h.s, h.hm⟩
end
theorem own_sl2 {w : World} {B n k : Nat} {v : Value} {e : TypeId} {xs : List Value} (h : w.ownsRow B e k v n xs) : ∃ a c, v = .slice a n c := own_sl h
theorem own_some {w : World} {B n k : Nat} {a : Option Addr} {c m : Nat} {e : TypeId} {xs : List Value} (h : w.ownsRow B e k (.slice a m c) n xs) (hn : 0 < n) : ∃ q, a = some ⟨q, 0, none⟩ := by
  rcases h.2 with ⟨_, h0⟩ | ⟨g, cap, cur, e, _⟩
  · omega
  · injection e with e
    exact ⟨g, e⟩
set_option maxRecDepth 100000 in
set_option maxHeartbeats 16000000 in
theorem groups_any (a : Option Addr) (ka : Nat) (l : List Pd) (w : World) (hF : PodLs w a l) (hl : l.length ≤ 60) (hI : ∀ x ∈ l, PodAt w x) (hL : ∀ x ∈ l, lightP x = true) (hWT : WT w) (hT : Tab10 w) :
    Calls Tryd.prog 7 #[.slice a l.length ka] w (GivesK w (grpK l)) := by
  have HTw := Lib.hid (fun V (hV : Below w.heap.size w V) => twice_any a ka l V (hF.mono hV) (by omega) (fun x hx => by
    have h9 := lightP_iff (hL x hx)
    exact h9.nm))
  obtain ⟨n, hn⟩ : ∃ n, l.length = n := ⟨_, rfl⟩
  obtain ⟨K, hK9⟩ : ∃ K, l.map keyP = K := ⟨_, rfl⟩
  have HN := Lib.hid hn
  have HKn := Lib.hid (show K.length = n by rw [← hK9, List.length_map, hn])
  have HKk := Lib.hid (fun k p (h : l[k]? = some p) => show K[k]? = some (keyP p) by rw [← hK9, List.getElem?_map, h]; rfl)
  have HF := Lib.hid hF
  have HI := Lib.hid hI
  have HLt := Lib.hid hL
  have HWt := Lib.hid hWT
  have HT10 := Lib.hid hT
  obtain ⟨A, hA⟩ : ∃ A, l.all rightP = A := ⟨_, rfl⟩
  have HA := Lib.hid (show (l.drop 0).all rightP = A from hA)
  obtain ⟨R, hR⟩ : ∃ R, grpK l = R := ⟨_, rfl⟩
  have HR := Lib.hid (show R = if A = true then (if twK (l.map Pd.nm) = true then ([], 15) else (grS K 0 [] [], 0)) else ([], 12) by rw [← hR, ← hA, ← hK9]; rfl)
  obtain ⟨W1, hW1⟩ : ∃ V, V = w.alloc (.cells (madeCells #[.string ⟨#[]⟩] n) 9) := ⟨_, rfl⟩
  have HX1 := Lib.hid (show Blk W1 w.heap.size 9 (madeCells #[.string ⟨#[]⟩] n).toList by rw [hW1]; exact Blk.new w 9 _)
  have HX1l := Lib.hid (show (madeCells #[.string ⟨#[]⟩] n).toList.length = n by rw [Array.length_toList, size_madeCells])
  have HB1 := Lib.hid (show Below w.heap.size w W1 by rw [hW1]; exact (Below.refl _ _).alloc (Nat.le_refl _) _)
  have hlt1 := HX1.out.lt
  have hmk := fun V => kmade n V (by omega)
  rw [hR]
  rw [hn] at hl HTw ⊢
  obtain ⟨tw, htw⟩ : ∃ b, twK (l.map Pd.nm) = b := ⟨_, rfl⟩
  rw [htw] at HTw HR
  clear hF hI hL hWT hT hn hK9 hA hR htw
  go_enter Tryd.func7, Tryd.ntmps7
  go_upto_region 2 with (fail)
  rw [← hW1]
  clear hW1 hmk
  go_wp2
  go_loopw [18] (fun vi wr => ∃ (k : Nat) (cs : List Value), k ≤ n ∧ vi = .int .i64 k ∧ (l.drop k).all rightP = A ∧ Blk wr w.heap.size 9 cs ∧ cs.length = n ∧ (∀ (j : Nat) (y : ByteArray), j < k → K[j]? = some y → cs[j]? = some (.string y)) ∧ Below w.heap.size w wr) (fun vi _ => n - (intOf vi).toNat)
  case atStart => exact ⟨0, _, Nat.zero_le _, rfl, HA.out, HX1.out, HX1l.out, fun j y h => by omega, HB1.out⟩
  case round =>
    clear HX1 HX1l HA
    obtain ⟨k, cs, hk, rfl, hE, hC, hCl, hCk, hB⟩ := hrel
    have hbz := hB.size
    have HB := Lib.hid hB
    by_cases hlt : k < n
    · obtain ⟨p, hp⟩ := mem_at (l := l) (k := k) (by rw [HN.out]; exact hlt)
      obtain ⟨b, o, rfl, hb, hc⟩ := (HF.out.mono hB) (by rw [HN.out]; omega)
      have HRq := Lib.hid (show wr.rangeAt b (o + k * 20) [.string (p).nm, .int .i64 (p).n0, .int .i64 (p).n1, .int .i64 (p).n2, .int .i64 (p).n3, .int .i64 (p).n4, .slice (p).la (p).labs.length (p).lk, .slice (p).sa (p).sels.length (p).sk, .slice (p).ta (p).trms.length (p).tk, .slice (p).ba (p).bers.length (p).bk, .slice (p).pa (p).prts.length (p).pk, .slice (p).aa (p).aprs.length (p).ak, .bool (p).wd, .slice (p).da (p).spds.length (p).dk, .int .i64 (p).sw, .int .i64 (p).rk, .string (p).ow, .bool (p).dm, .bool (p).pn, .bool (p).lc] from fun j v hj => by
        have hj20 : j < 20 := (List.getElem?_eq_some_iff.1 hj).1
        rw [hc k p hp j hj20]
        exact hj)
      obtain ⟨Z, hZ⟩ : ∃ Z, wr.heap.size = Z := ⟨_, rfl⟩
      obtain ⟨w5, hw5⟩ : ∃ V, V = wr.alloc (.cells #[.string (p).nm, .int .i64 (p).n0, .int .i64 (p).n1, .int .i64 (p).n2, .int .i64 (p).n3, .int .i64 (p).n4, .slice (p).la (p).labs.length (p).lk, .slice (p).sa (p).sels.length (p).sk, .slice (p).ta (p).trms.length (p).tk, .slice (p).ba (p).bers.length (p).bk, .slice (p).pa (p).prts.length (p).pk, .slice (p).aa (p).aprs.length (p).ak, .bool (p).wd, .slice (p).da (p).spds.length (p).dk, .int .i64 (p).sw, .int .i64 (p).rk, .string (p).ow, .bool (p).dm, .bool (p).pn, .bool (p).lc] 37) := ⟨_, rfl⟩
      have HZ5 := Lib.hid (show Box Z (prow p) w5 by rw [hw5, ← hZ]; exact Box.new wr (prow p) 37)
      have HRz := Lib.hid (show w5.rangeAt Z 0 [.string (p).nm, .int .i64 (p).n0, .int .i64 (p).n1, .int .i64 (p).n2, .int .i64 (p).n3, .int .i64 (p).n4, .slice (p).la (p).labs.length (p).lk, .slice (p).sa (p).sels.length (p).sk, .slice (p).ta (p).trms.length (p).tk, .slice (p).ba (p).bers.length (p).bk, .slice (p).pa (p).prts.length (p).pk, .slice (p).aa (p).aprs.length (p).ak, .bool (p).wd, .slice (p).da (p).spds.length (p).dk, .int .i64 (p).sw, .int .i64 (p).rk, .string (p).ow, .bool (p).dm, .bool (p).pn, .bool (p).lc] from HZ5.out.range)
      have HP := Lib.hid (kprow_one p)
      have hb5 : Below wr.heap.size wr w5 := by rw [hw5]; exact (Below.refl _ _).alloc (Nat.le_refl _) _
      have HC5 := Lib.hid (hC.below hb5)
      have HB5 := Lib.hid (hB.trans (hb5.mono hbz))
      have HKy := Lib.hid (show Calls Tryd.prog 15 #[.agg #[.string (p).nm, .int .i64 (p).n0, .int .i64 (p).n1, .int .i64 (p).n2, .int .i64 (p).n3, .int .i64 (p).n4, .slice (p).la (p).labs.length (p).lk, .slice (p).sa (p).sels.length (p).sk, .slice (p).ta (p).trms.length (p).tk, .slice (p).ba (p).bers.length (p).bk, .slice (p).pa (p).prts.length (p).pk, .slice (p).aa (p).aprs.length (p).ak, .bool (p).wd, .slice (p).da (p).spds.length (p).dk, .int .i64 (p).sw, .int .i64 (p).rk, .string (p).ow, .bool (p).dm, .bool (p).pn, .bool (p).lc]] w5 fun e w' => e = .returned (.string (keyP p)) ∧ Below w5.heap.size w5 w' from skey_any p w5 ((HI.out p (List.mem_of_getElem? hp)).mono HB5.out) (HLt.out p (List.mem_of_getElem? hp)) (HWt.out.mono HB5.out HWt.out.sz) (HT10.out.mono HB5.out))
      have HKk9 := Lib.hid (HKk.out k p hp)
      have hnx := (all_at rightP hp).symm.trans hE
      obtain ⟨y, hy⟩ : ∃ y, keyP p = y := ⟨_, rfl⟩
      have hyn : rightP p = false → y = emp := fun h => by rw [← hy]; exact key_no h
      have hyy : rightP p = true → ¬ y = emp := fun h => by rw [← hy]; exact key_yes h
      obtain ⟨m, hm⟩ : ∃ m, rightP p = m := ⟨_, rfl⟩
      rw [hm] at hnx hyn hyy
      rw [hy] at HKy HKk9
      have HNx := Lib.hid hnx
      obtain ⟨u0, hu0⟩ : ∃ u, cs[k]? = some u := ⟨_, List.getElem?_eq_getElem (by rw [hCl]; exact hlt)⟩
      have Hu0 := Lib.hid hu0
      have HCl := Lib.hid hCl
      have HCk := Lib.hid hCk
      clear hc hp hB hE hnx hm hC hCl hCk hb5 hy hu0
      go_upto_region 5 with (first
        | ((with_reducible refine at_load (ty := 37) ?_); refine load_cells rfl 37 (.tmp 21) rfl b (o + k * 20) rfl [.string (p).nm, .int .i64 (p).n0, .int .i64 (p).n1, .int .i64 (p).n2, .int .i64 (p).n3, .int .i64 (p).n4, .slice (p).la (p).labs.length (p).lk, .slice (p).sa (p).sels.length (p).sk, .slice (p).ta (p).trms.length (p).tk, .slice (p).ba (p).bers.length (p).bk, .slice (p).pa (p).prts.length (p).pk, .slice (p).aa (p).aprs.length (p).ak, .bool (p).wd, .slice (p).da (p).spds.length (p).dk, .int .i64 (p).sw, .int .i64 (p).rk, .string (p).ow, .bool (p).dm, .bool (p).pn, .bool (p).lc] _ Tryd.underlying37 rfl (by kernel_rfl) HRq.out ?_)
        | ((with_reducible refine at_store (ty := 37) ?_); refine store_new rfl 37 (.tmp 6) (.tmp 22) rfl _ _ (by first | rfl | (show _ = Value.pointer (some ⟨wr.heap.size, 0, none⟩); rw [hZ]; rfl)) rfl (by kernel_rfl) rfl (List.all_eq_true.2 HP.out) rfl ?_))
      (try rw [hZ])
      rw [← hw5]
      clear hw5 hZ
      go_upto_region 6 with (first
        | ((with_reducible refine at_load (ty := 37) ?_); refine load_cells rfl 37 (.tmp 6) rfl Z 0 rfl [.string (p).nm, .int .i64 (p).n0, .int .i64 (p).n1, .int .i64 (p).n2, .int .i64 (p).n3, .int .i64 (p).n4, .slice (p).la (p).labs.length (p).lk, .slice (p).sa (p).sels.length (p).sk, .slice (p).ta (p).trms.length (p).tk, .slice (p).ba (p).bers.length (p).bk, .slice (p).pa (p).prts.length (p).pk, .slice (p).aa (p).aprs.length (p).ak, .bool (p).wd, .slice (p).da (p).spds.length (p).dk, .int .i64 (p).sw, .int .i64 (p).rk, .string (p).ow, .bool (p).dm, .bool (p).pn, .bool (p).lc] _ Tryd.underlying37 rfl (by kernel_rfl) HRz.out ?_)
        | (go_at_call 15; (with_reducible refine HKy.out.mono ?_); rintro e w8 ⟨rfl, hb8⟩; have HC8 := Lib.hid (HC5.out.below hb8); have HB8 := Lib.hid (HB5.out.trans (hb8.mono HB5.out.size)); have g0 : w8.cell? ⟨w.heap.size, k, none⟩ = some u0 := (HC8.out.cell k).trans Hu0.out; have gf := HC8.out.frozen k; have gl := HC8.out.lt; clear hb8))
      obtain ⟨w9, hw9⟩ : ∃ V, V = w8.setCell ⟨w.heap.size, k, none⟩ (.string y) := ⟨_, rfl⟩
      have HC9 := Lib.hid (show Blk w9 w.heap.size 9 (cs.set k (.string y)) by rw [hw9]; exact HC8.out.set k _)
      have HB9 := Lib.hid (show Below w.heap.size w w9 by rw [hw9]; exact HB8.out.setCell (Nat.le_refl _) _)
      rw [← hw9]
      clear hw9 g0 gf gl HC8 HB8 HC5 HB5 HKy HRq HRz HZ5 HP
      have g0 : w9.cell? ⟨w.heap.size, k, none⟩ = some (.string y) := (HC9.out.cell k).trans (List.getElem?_set_self (by rw [HCl.out]; exact hlt))
      have gl := HC9.out.lt
      cases m with
      | true =>
        have q1 : y.toList.isEmpty = false := ne_emp (hyy rfl)
        have HNy := Lib.hid (show (l.drop (k + 1)).all rightP = A by have := HNx.out; rwa [Bool.true_and] at this)
        clear hyn hyy HNx
        go_wp2
        go_roundw
        case rel => exact ⟨k + 1, _, by omega, by go_num, HNy.out, HC9.out, by rw [List.length_set]; exact HCl.out, fun j x hj hx => by
          by_cases hjk : j = k
          · subst hjk
            rw [List.getElem?_set_self (by rw [HCl.out]; exact hlt)]
            rw [HKk9.out] at hx
            rw [Option.some.inj hx]
          · rw [List.getElem?_set_ne (fun e => hjk e.symm)]
            exact HCk.out j x (by omega) hx, HB9.out⟩
        case measure => simp [intOf]; omega
      | false =>
        have hy0 := hyn rfl
        have q1 : y.toList.isEmpty = true := by rw [hy0]; simp [emp]
        have Hy0 := Lib.hid hy0
        have HRf := Lib.hid (show R = ([], 12) by rw [HR.out, if_neg (by have := HNx.out; rw [Bool.false_and] at this; rw [← this]; exact Bool.false_ne_true)])
        clear hy0 hyn hyy HNx
        go_wp2
        refine bodyPost_ret (v := .tuple #[.slice none 0 0, .int .i64 12]) (by simp [results, Tryd.results7, go_sem]) rfl ⟨⟨none, 0, by rw [HRf.out]; rfl, by rw [HRf.out]; exact GrL.nil _⟩, HB9.out⟩
    · obtain rfl : k = n := by omega
      have HRa := Lib.hid (show R = if tw = true then ([], 15) else (grS K 0 [] [], 0) by
        rw [HR.out, if_pos (by rw [← hE, List.drop_of_length_le (by rw [HN.out]; exact Nat.le_refl _)]; rfl)])
      have HC := Lib.hid hC
      have HCl := Lib.hid hCl
      have HCk := Lib.hid hCk
      clear hE hB hC hCl hCk hlt HR
      cases tw with
      | true =>
        have HRb := Lib.hid (show R = ([], 15) by rw [HRa.out]; exact if_pos rfl)
        clear HRa
        go_wp2_with (go_at_call 16; (with_reducible refine (HTw.out _ HB.out).mono ?_); rintro e w8 ⟨rfl, hb8⟩; have HB8 := Lib.hid (HB.out.trans (hb8.mono HB.out.size)); clear hb8)
        refine bodyPost_ret (v := .tuple #[.slice none 0 0, .int .i64 15]) (by simp [results, Tryd.results7, go_sem]) rfl ⟨⟨none, 0, by rw [HRb.out]; rfl, by rw [HRb.out]; exact GrL.nil _⟩, HB8.out⟩
      | false =>
        have HRb := Lib.hid (show (grS (K.drop 0) 0 [] [], 0) = R by rw [HRa.out]; exact (if_neg Bool.false_ne_true).symm)
        clear HRa
        have hmm := @run_makeMap Tryd.prog
        go_wp2_with (go_at_call 16; (with_reducible refine (HTw.out _ HB.out).mono ?_); rintro e w8 ⟨rfl, hb8⟩; have HC8 := Lib.hid (HC.out.below hb8); have HB8 := Lib.hid (HB.out.trans (hb8.mono HB.out.size)); clear hb8)
        obtain ⟨i0, hi, hz0, hz1, hz2⟩ := info_parts Tryd.info3
        have Hi := Lib.hid hi
        have Hz0 := Lib.hid hz0
        have Hz1 := Lib.hid hz1
        have Hz2 := Lib.hid hz2
        obtain ⟨j0, kj, jz0, jz1, jz2⟩ := info_parts Tryd.info29
        have Hj := Lib.hid kj
        have Jz0 := Lib.hid jz0
        have Jz1 := Lib.hid jz1
        have Jz2 := Lib.hid jz2
        have HG0 := Lib.hid (show GS w.heap.size w.heap.size w8.heap.size 0 (.slice none 0 0) [] [] (posF []) cs w (w8.alloc (.map #[] 0)) from
          ⟨World.ownsRow_nil _ _ _ _, RO.nil _ _, (MapIs.made w8 Tryd.prog 9).eq (fun s => by simp [posF, posB]), HC8.out.alloc _, HB8.out.alloc HB8.out.size _, by have := HB8.out.size; rw [World.size_alloc]; omega, HB8.out.size⟩)
        have HKz := Lib.hid (fun (j : Nat) (y : ByteArray) (h : K[j]? = some y) => show y.size ≤ 60000000 by
          obtain ⟨p, hp⟩ := mem_at (l := l) (k := j) (by rw [HN.out, ← HKn.out]; exact (List.getElem?_eq_some_iff.1 h).1)
          have h9 := HKk.out j p hp
          rw [h] at h9
          rw [Option.some.inj h9]
          exact key_size (HLt.out p (List.mem_of_getElem? hp)))
        clear hi hz0 hz1 hz2 kj jz0 jz1 jz2 HTw HWt HT10 HI HF hmm
        go_loopw [7, 39] (fun vo vi wr => ∃ (j : Nat) (D : List ByteArray) (G : List (List Int)) (vs : List Value), j ≤ k ∧ vi = .int .i64 j ∧ (grS (K.drop j) j D G, 0) = R ∧ D.length = G.length ∧ D.length ≤ j ∧ (∀ g ∈ G, g.length ≤ j) ∧ GS w.heap.size w.heap.size w8.heap.size j vo vs G (posF D) cs w wr) (fun _ vi _ => k - (intOf vi).toNat)
        case atStart => exact ⟨0, [], [], [], Nat.zero_le _, rfl, HRb.out, rfl, Nat.le_refl _, (fun g hg => by simp at hg), HG0.out⟩
        case round =>
          clear HG0 HRb HC8 HB8 HC HB
          obtain ⟨j, D, G, vs, hj, rfl, hE, hDG, hDj, hGl, hS⟩ := hrel
          obtain ⟨ao, ko, rfl⟩ := own_sl hS.o
          obtain ⟨L, hLn⟩ : ∃ L, vs.length = L := ⟨_, rfl⟩
          by_cases hlt : j < k
          · obtain ⟨y, hy⟩ := mem_at (l := K) (k := j) (by rw [HKn.out]; exact hlt)
            have d0 : wr.cell? ⟨w.heap.size, j, none⟩ = some (.string y) := (hS.c.cell j).trans (HCk.out j y hlt hy)
            have dl := hS.c.lt
            have hyz := HKz.out j y hy
            have hys : y.size ≤ maxLen := by unfold maxLen; omega
            have hnx := (congrArg (fun z => (z, (0 : Int))) (grS_at hy D G)).symm.trans hE
            have hvl : L = D.length := by rw [← hLn]; exact hS.r.len.trans hDG.symm
            rw [hLn] at hS ⊢
            have HGl := Lib.hid hGl
            clear hE hy hGl hyz
            by_cases hp : posB D y < D.length
            · have hst : stepG D G y j = (D, G.set (posB D y) (G.getD (posB D y) [] ++ [(j : Int)])) := if_pos hp
              rw [hst] at hnx
              have Hf := Lib.hid (show posF D y = some (.int .i64 (posB D y : Nat)) from if_pos hp)
              obtain ⟨p, hpp⟩ : ∃ p, posB D y = p := ⟨_, rfl⟩
              rw [hpp] at hp hnx Hf
              obtain ⟨v, hv⟩ := mem_at (l := vs) (k := p) (by omega)
              obtain ⟨g, hg, hown⟩ := hS.r.at hv
              obtain ⟨av, cv, rfl⟩ := own_sl hown
              rw [show G.getD p [] = g by rw [List.getD_eq_getElem?_getD, hg]; rfl] at hnx
              have hgl := HGl.out g (List.mem_of_getElem? hg)
              obtain ⟨q, rfl⟩ := own_some hS.o (by omega)
              have HNx := Lib.hid hnx
              have HV := Lib.hid hv
              have HG := Lib.hid hg
              have HSw := Lib.hid hS
              have hDG9 := Lib.hid hDG
              have hpL : p < L := by omega
              have HLn := Lib.hid hLn
              have HvL := Lib.hid hvl
              have HDj := Lib.hid hDj
              clear hst hnx hpp hv hg hown hS hDG hp hvl hLn hDj
              go_upto_region 17 with (at_lookup; refine at_look_ok rfl _ _ 47 9 3 rfl klaw_str Tryd.underlying47 Tryd.underlying9 _ (kzero_int _) HSw.out.m rfl _ rfl hys ?_; rw [Hf.out])
              obtain ⟨c1, ql⟩ := HSw.out.cell HLn.out HV.out
              have HRv := Lib.hid (HSw.out.r.own p _ _ HV.out HG.out)
              have hbs := HSw.out.s
              have Hbs := Lib.hid hbs
              clear hbs
              go_wp2_with (at_builtin; refine wpList_append_own_at _ rfl (.tmp 65) (.tmp 67) 29 rfl w.heap.size 3 i0 (.int .i64 0) 1 8 Tryd.underlying29 Hi.out Hz0.out Hz1.out Hz2.out rfl (by decide) _ g.length (g.map (Value.int .i64)) rfl (HRv.out.alloc _) ⟨(wr).heap.size, 0, none⟩ 1 1 [.int .i64 (j : Nat)] rfl rfl (cell_one_new _ _ _) (ints_oneCell .i64 [((j : Nat) : Int)]) (by unfold maxLen; omega) (by omega) (le_alloc Hbs.out _) ?_; intro v6 w6 hown6 hgrow6 _ hloc6; obtain ⟨d1, d2, d3⟩ := (HSw.out.alloc _).cell6 HLn.out HV.out hgrow6; have HS6 := Lib.hid ((HSw.out.alloc _).set HLn.out HV.out HG.out hgrow6 hown6 hloc6); have HO6 := own_sl hown6; clear hown6 hgrow6 hloc6; obtain ⟨a6, k6, rfl⟩ := HO6)
              go_roundw
              case rel =>
                refine ⟨j + 1, D, (G).set p (g ++ [(j : Int)]), (vs).set p (.slice a6 (g.length + 1) k6), by omega, by go_num, HNx.out, by rw [List.length_set]; exact hDG9.out, (by first | exact HDj.out | exact Nat.le_succ_of_le HDj.out), len_all HGl.out p g _ HG.out, HS6.out.up (by first | exact Nat.le_refl _ | exact Nat.le_succ _ | omega)⟩
              case measure => simp [intOf]; omega
            · have hst : stepG D G y j = (D ++ [y], G ++ [[(j : Int)]]) := if_neg hp
              rw [hst] at hnx
              have Hf := Lib.hid (show posF D y = none from if_neg hp)
              have HUp := Lib.hid (posF_snoc (y := y) hp)
              rw [← hvl] at HUp
              have hGL : G.length = L := by rw [hvl, hDG]
              rw [show G ++ [[(j : Int)]] = (G ++ [[]]).set L ([] ++ [(j : Int)]) by rw [← hGL]; simp] at hnx
              have HNx := Lib.hid hnx
              have HSw := Lib.hid hS
              have hL60 : L ≤ 60 := by omega
              have HV := Lib.hid (show (vs ++ [Value.slice none 0 0])[L]? = some (.slice none 0 0) by rw [← hLn]; simp)
              have HG := Lib.hid (show (G ++ [([] : List Int)])[L]? = some [] by rw [← hGL]; simp)
              have HLn := Lib.hid hLn
              have HLp := Lib.hid (show (vs ++ [Value.slice none 0 0]).length = L + 1 by rw [List.length_append, hLn]; rfl)
              have hDG9 := Lib.hid (show (D ++ [y]).length = (G ++ [([] : List Int)]).length by rw [List.length_append, List.length_append, hDG]; rfl)
              have HDj := Lib.hid (show (D ++ [y]).length ≤ j + 1 by rw [List.length_append]; show D.length + 1 ≤ j + 1; omega)
              have HGl := Lib.hid (show ∀ g ∈ G ++ [([] : List Int)], g.length ≤ j from fun g hg => by
                rcases List.mem_append.1 hg with h | h
                · exact HGl.out g h
                · rw [List.mem_singleton.1 h]; exact Nat.zero_le _)
              have hbs := hS.s
              have Hbs := Lib.hid hbs
              clear hst hnx hS hDG hp hvl hLn hDj hGL hbs
              go_upto_region 17 with (at_lookup; refine at_look_ok rfl _ _ 47 9 3 rfl klaw_str Tryd.underlying47 Tryd.underlying9 _ (kzero_int _) HSw.out.m rfl _ rfl hys ?_; rw [Hf.out])
              go_upto_region 20 with (at_mapUpdate; refine at_put rfl _ _ _ 47 9 3 rfl klaw_str Tryd.underlying47 Tryd.underlying9 HSw.out.m (by unfold maxLen; omega) rfl _ rfl hys (.int .i64 (L : Nat)) (by rfl) ?_; intro w5 hm5 hg5; have HS5 := Lib.hid (HSw.out.put (hm5.eq HUp.out) hg5); clear hm5 hg5)
              have Hb5 := Lib.hid HS5.out.s
              have HO5 := Lib.hid HS5.out.o
              rw [HLn.out] at HO5
              go_upto_region 21 with (at_builtin; refine wpList_append_own_at _ rfl (.tmp 57) (.tmp 58) 25 rfl w.heap.size 29 j0 (.slice none 0 0) 1 24 Tryd.underlying25 Hj.out Jz0.out Jz1.out Jz2.out rfl (by decide) _ L vs rfl (HO5.out.alloc _) ⟨w5.heap.size, 0, none⟩ 1 1 [.slice none 0 0] rfl rfl (cell_one_new _ _ _) (fun u hu => by rw [List.mem_singleton.1 hu]; rfl) (by unfold maxLen; omega) (by omega) (le_alloc Hb5.out _) ?_; intro v3 w3 hown3 hgrow3 _ hloc3; have HS3 := Lib.hid ((HS5.out.alloc _).pushed (by rw [HLn.out]; exact hown3) hgrow3); have HO3 := Lib.hid hown3; clear hown3 hgrow3 hloc3)
              obtain ⟨a3, k3, rfl⟩ := own_sl HO3.out
              obtain ⟨q, rfl⟩ := own_some HO3.out (by omega)
              obtain ⟨g, hg⟩ : ∃ g : List Int, g = [] := ⟨_, rfl⟩
              have hgl : g.length ≤ j := by rw [hg]; exact Nat.zero_le _
              have HG := Lib.hid (show (G ++ [([] : List Int)])[L]? = some g by rw [hg]; exact HG.out)
              have HNx := Lib.hid (show (grS (K.drop (j + 1)) (j + 1) (D ++ [y]) ((G ++ [[]]).set L (g ++ [(j : Int)])), (0 : Int)) = R by rw [hg]; exact HNx.out)
              clear hg
              obtain ⟨c1, ql⟩ := HS3.out.cell HLp.out HV.out
              have HRv := Lib.hid (HS3.out.r.own L _ _ HV.out HG.out)
              have hbs := HS3.out.s
              have Hbs := Lib.hid hbs
              clear hbs
              go_wp2_with (at_builtin; refine wpList_append_own_at _ rfl (.tmp 65) (.tmp 67) 29 rfl w.heap.size 3 i0 (.int .i64 0) 1 8 Tryd.underlying29 Hi.out Hz0.out Hz1.out Hz2.out rfl (by decide) _ g.length (g.map (Value.int .i64)) rfl (HRv.out.alloc _) ⟨(w3).heap.size, 0, none⟩ 1 1 [.int .i64 (j : Nat)] rfl rfl (cell_one_new _ _ _) (ints_oneCell .i64 [((j : Nat) : Int)]) (by unfold maxLen; omega) (by omega) (le_alloc Hbs.out _) ?_; intro v6 w6 hown6 hgrow6 _ hloc6; obtain ⟨d1, d2, d3⟩ := (HS3.out.alloc _).cell6 HLp.out HV.out hgrow6; have HS6 := Lib.hid ((HS3.out.alloc _).set HLp.out HV.out HG.out hgrow6 hown6 hloc6); have HO6 := own_sl hown6; clear hown6 hgrow6 hloc6; obtain ⟨a6, k6, rfl⟩ := HO6)
              go_roundw
              case rel =>
                refine ⟨j + 1, D ++ [y], (G ++ [([] : List Int)]).set L (g ++ [(j : Int)]), (vs ++ [Value.slice none 0 0]).set L (.slice a6 (g.length + 1) k6), by omega, by go_num, HNx.out, by rw [List.length_set]; exact hDG9.out, (by first | exact HDj.out | exact Nat.le_succ_of_le HDj.out), len_all HGl.out L g _ HG.out, HS6.out.up (by first | exact Nat.le_refl _ | exact Nat.le_succ _ | omega)⟩
              case measure => simp [intOf]; omega
          · obtain rfl : k = j := by omega
            rw [List.drop_of_length_le (by rw [HKn.out]; exact Nat.le_refl _)] at hE
            have HE := Lib.hid (show (G, (0 : Int)) = R from hE)
            have HGr := Lib.hid (hS.r.grL hS.o)
            have HLg := Lib.hid hS.r.len
            have HBf := Lib.hid hS.b
            clear hE hS
            go_wp2
            refine bodyPost_ret (v := .tuple #[.slice ao vs.length ko, .int .i64 0]) (by simp [results, Tryd.results7, go_sem]) rfl ⟨⟨ao, ko, by rw [← HE.out, HLg.out], by rw [← HE.out]; exact HGr.out⟩, HBf.out⟩
end Go.Proofs.YtccplljbljpjpaaDoor
