/-
  The document's provider in memory: what it holds, single stores; place, Size.
-/
import Derived.Test.YtcfdejlbchdciaaGreatDoorClY
import Derived.Test.YtcfdejlbchdciaaGreatDoorLate
namespace Go.Proofs.YtcfdejlbchdciaaGreatDoor
open Go.RowKit
set_option linter.unusedVariables false
set_option linter.unusedSimpArgs false

def tcl (p : Pl) : List Value := [.int .i64 p.t]
def lcl (p : Pl) : List Value := [.int .i64 p.la]
def bcl (p : Pl) : List Value := [.bool p.br]
theorem tcl_len (p : Pl) : (tcl p).length = 1 := rfl
theorem lcl_len (p : Pl) : (lcl p).length = 1 := rfl
theorem bcl_len (p : Pl) : (bcl p).length = 1 := rfl
structure RT (w0 w : World) (b : Nat) (ga : Option Addr) (gka : Nat) (G : List Gp) (s : CS) (tv lav bv lv : Value) : Prop where
  row : Blk w b 65 [.slice ga G.length gka, tv, lav, bv, lv, .int .i64 s.dl, .int .i64 s.nw, .int .i64 s.ca]
  gl : GpL w0 ga G
  to : w.ownsRow w0.heap.size 3 1 tv s.P.length (s.P.flatMap tcl)
  la : w.ownsRow w0.heap.size 3 1 lav s.P.length (s.P.flatMap lcl)
  br : w.ownsRow w0.heap.size 4 1 bv s.P.length (s.P.flatMap bcl)
  lo : w.ownsRow w0.heap.size 41 5 lv s.L.length (s.L.flatMap irow)
  ne : ∀ z, tv.ownBlock = some z → lav.ownBlock ≠ some z
  gk : G.map gkOf = s.G
  hb : w0.heap.size ≤ b
  bl : Below w0.heap.size w0 w
def rblocks (b : Nat) (tv lav bv lv : Value) : List Nat := b :: (tv.ownBlock.toList ++ (lav.ownBlock.toList ++ (bv.ownBlock.toList ++ lv.ownBlock.toList)))
section
variable {w0 w w' : World} {b : Nat} {ga : Option Addr} {gka : Nat} {G : List Gp} {s : CS} {tv lav bv lv : Value}
theorem RT.only {S : List Nat} (h : RT w0 w b ga gka G s tv lav bv lv) (ho : Only S w w') (hb : b ∉ S) (ht : ∀ g, tv.ownBlock = some g → g ∉ S) (hl : ∀ g, lav.ownBlock = some g → g ∉ S) (hr : ∀ g, bv.ownBlock = some g → g ∉ S) (hi : ∀ g, lv.ownBlock = some g → g ∉ S) (h0 : ∀ z ∈ S, w0.heap.size ≤ z) : RT w0 w' b ga gka G s tv lav bv lv :=
  ⟨h.row.only ho hb, h.gl, own_same h.to fun g e => ho.block g (own_lt h.to e).2 (ht g e), own_same h.la fun g e => ho.block g (own_lt h.la e).2 (hl g e), own_same h.br fun g e => ho.block g (own_lt h.br e).2 (hr g e), own_same h.lo fun g e => ho.block g (own_lt h.lo e).2 (hi g e), h.ne, h.gk, h.hb, ho.below h.bl h.bl.size h0⟩
theorem RT.below (h : RT w0 w b ga gka G s tv lav bv lv) (hb : Below w.heap.size w w') : RT w0 w' b ga gka G s tv lav bv lv :=
  h.only (S := []) (Only.of_below hb) (by simp) (fun _ _ => by simp) (fun _ _ => by simp) (fun _ _ => by simp) (fun _ _ => by simp) (fun _ h => by cases h)
theorem RT.blocks (h : RT w0 w b ga gka G s tv lav bv lv) : ∀ k ∈ rblocks b tv lav bv lv, w0.heap.size ≤ k ∧ k < w.heap.size := fun k hk => by
  unfold rblocks at hk
  rcases List.mem_cons.1 hk with rfl | hk
  · exact ⟨h.hb, h.row.lt⟩
  rcases List.mem_append.1 hk with hk | hk
  · exact own_lt h.to (by simpa using hk)
  rcases List.mem_append.1 hk with hk | hk
  · exact own_lt h.la (by simpa using hk)
  rcases List.mem_append.1 hk with hk | hk
  · exact own_lt h.br (by simpa using hk)
  · exact own_lt h.lo (by simpa using hk)
theorem RT.groups (h : RT w0 w b ga gka G s tv lav bv lv) : GpL w ga G := h.gl.mono h.bl
/-- One list's cells. -/
theorem RT.tAt (h : RT w0 w b ga gka G s tv lav bv lv) : ∃ a k, tv = .slice a s.P.length k ∧ (0 < s.P.length → ∃ g, a = some ⟨g, 0, none⟩ ∧ g < w.heap.size ∧ ∀ i x, s.P[i]? = some x → w.cell? ⟨g, i, none⟩ = some (.int .i64 x.t)) := by
  obtain ⟨a, k, e, hc⟩ := own_rows tcl_len h.to (by decide)
  refine ⟨a, k, e, fun h0 => ?_⟩
  obtain ⟨g, h1, _, h3, h4⟩ := hc h0
  exact ⟨g, h1, h3, fun i x hx => by have := h4 i x hx 0 (by decide); simpa [tcl] using this⟩
theorem RT.lAt (h : RT w0 w b ga gka G s tv lav bv lv) : ∃ a k, lav = .slice a s.P.length k ∧ (0 < s.P.length → ∃ g, a = some ⟨g, 0, none⟩ ∧ g < w.heap.size ∧ ∀ i x, s.P[i]? = some x → w.cell? ⟨g, i, none⟩ = some (.int .i64 x.la)) := by
  obtain ⟨a, k, e, hc⟩ := own_rows lcl_len h.la (by decide)
  refine ⟨a, k, e, fun h0 => ?_⟩
  obtain ⟨g, h1, _, h3, h4⟩ := hc h0
  exact ⟨g, h1, h3, fun i x hx => by have := h4 i x hx 0 (by decide); simpa [lcl] using this⟩
theorem RT.bAt (h : RT w0 w b ga gka G s tv lav bv lv) : ∃ a k, bv = .slice a s.P.length k ∧ (0 < s.P.length → ∃ g, a = some ⟨g, 0, none⟩ ∧ g < w.heap.size ∧ ∀ i x, s.P[i]? = some x → w.cell? ⟨g, i, none⟩ = some (.bool x.br)) := by
  obtain ⟨a, k, e, hc⟩ := own_rows bcl_len h.br (by decide)
  refine ⟨a, k, e, fun h0 => ?_⟩
  obtain ⟨g, h1, _, h3, h4⟩ := hc h0
  exact ⟨g, h1, h3, fun i x hx => by have := h4 i x hx 0 (by decide); simpa [bcl] using this⟩
theorem RT.iAt (h : RT w0 w b ga gka G s tv lav bv lv) : ∃ a k, lv = .slice a s.L.length k ∧ (0 < s.L.length → ∃ g, a = some ⟨g, 0, none⟩ ∧ g < w.heap.size ∧ ∀ i x, s.L[i]? = some x → ∀ r, r < 5 → w.cell? ⟨g, i * 5 + r, none⟩ = (irow x)[r]?) := by
  obtain ⟨a, k, e, hc⟩ := own_rows irow_len h.lo (by decide)
  refine ⟨a, k, e, fun h0 => ?_⟩
  obtain ⟨g, h1, _, h3, h4⟩ := hc h0
  exact ⟨g, h1, h3, fun i x hx r hr => by have := h4 i x hx r hr; simpa using this⟩
theorem int_inst : 3 ≠ 41 := by decide
/-- The target, the last number, the flag of a group are stored: the other two lists say the same of the new pool. -/
theorem RT.pset (h : RT w0 w b ga gka G s tv lav bv lv) {j : Nat} {x y : Pl} (hx : s.P[j]? = some x) {S : List Nat} (ho : Only S w w') (hS : ∀ z ∈ S, (tv.ownBlock = some z ∨ lav.ownBlock = some z ∨ bv.ownBlock = some z))
    (ht : w'.ownsRow w0.heap.size 3 1 tv s.P.length ((s.P.set j y).flatMap tcl)) (hl : w'.ownsRow w0.heap.size 3 1 lav s.P.length ((s.P.set j y).flatMap lcl)) (hr : w'.ownsRow w0.heap.size 4 1 bv s.P.length ((s.P.set j y).flatMap bcl)) :
    RT w0 w' b ga gka G { s with P := s.P.set j y } tv lav bv lv := by
  have tS : ∀ z ∈ S, TyAt w z 3 ∨ TyAt w z 4 := fun z hz => by
    rcases hS z hz with e | e | e
    · exact .inl (own_ty h.to e)
    · exact .inl (own_ty h.la e)
    · exact .inr (own_ty h.br e)
  have N : ∀ {q : Nat} {t : TypeId}, TyAt w q t → t ≠ 3 → t ≠ 4 → q ∉ S := fun hq h1 h2 hm => by
    rcases tS _ hm with e | e
    · exact hq.ne e h1 rfl
    · exact hq.ne e h2 rfl
  refine ⟨h.row.only ho (N (blk_ty h.row) (by decide) (by decide)), h.gl, ?_, ?_, ?_, own_same h.lo fun g e => ho.block g (own_lt h.lo e).2 (N (own_ty h.lo e) (by decide) (by decide)), h.ne, h.gk, h.hb, ho.below h.bl h.bl.size fun z hz => ?_⟩
  · rw [List.length_set]; exact ht
  · rw [List.length_set]; exact hl
  · rw [List.length_set]; exact hr
  · rcases hS z hz with e | e | e
    · exact (own_lt h.to e).1
    · exact (own_lt h.la e).1
    · exact (own_lt h.br e).1
theorem flat_same {α : Type} {enc : α → List Value} {x y : α} : ∀ {l : List α} {j : Nat}, l[j]? = some x → enc y = enc x → (l.set j y).flatMap enc = l.flatMap enc
  | [], j, h, _ => by simp at h
  | z :: l, 0, h, e => by
    obtain rfl : z = x := by simpa using h
    rw [List.set_cons_zero, List.flatMap_cons, List.flatMap_cons, e]
  | z :: l, j + 1, h, e => by
    rw [List.set_cons_succ, List.flatMap_cons, List.flatMap_cons, flat_same (by simpa using h) e]
theorem RT.tset (h : RT w0 w b ga gka G s tv lav bv lv) {g : Nat} (hg : tv.ownBlock = some g) {j : Nat} {x : Pl} (t : Int) (hx : s.P[j]? = some x) :
    RT w0 (w.setCell ⟨g, j, none⟩ (.int .i64 t)) b ga gka G { s with P := s.P.set j ⟨t, x.la, x.br⟩ } tv lav bv lv := by
  obtain ⟨c, rfl⟩ := own_slice h.to hg
  refine h.pset hx (S := [g]) ((Only.refl [g] w).setCell (p := ⟨g, j, none⟩) (.inl (List.mem_singleton.2 rfl)) _) (fun z hz => .inl (by rw [List.mem_singleton.1 hz]; rfl)) ?_ ?_ ?_
  · have h9 := (h.to.stored j (.int .i64 t)).1
    have h8 := flat_set tcl_len s.P j x ⟨t, x.la, x.br⟩ 0 (.int .i64 t) hx (by decide) rfl
    rw [Nat.mul_one, Nat.add_zero] at h8
    rw [h8] at h9
    exact h9
  · rw [show (s.P.set j ⟨t, x.la, x.br⟩).flatMap lcl = s.P.flatMap lcl from flat_same hx rfl]
    exact own_same h.la fun q e => Below.heap_setCell _ _ _ _ (fun e' => h.ne g rfl (by rw [e]; exact congrArg some e'))
  · rw [show (s.P.set j ⟨t, x.la, x.br⟩).flatMap bcl = s.P.flatMap bcl from flat_same hx rfl]
    exact own_same h.br fun q e => Below.heap_setCell _ _ _ _ ((own_ty h.br e).ne (own_ty h.to rfl) (by decide))
theorem RT.lset (h : RT w0 w b ga gka G s tv lav bv lv) {g : Nat} (hg : lav.ownBlock = some g) {j : Nat} {x : Pl} (t : Int) (hx : s.P[j]? = some x) :
    RT w0 (w.setCell ⟨g, j, none⟩ (.int .i64 t)) b ga gka G { s with P := s.P.set j ⟨x.t, t, x.br⟩ } tv lav bv lv := by
  obtain ⟨c, rfl⟩ := own_slice h.la hg
  refine h.pset hx (S := [g]) ((Only.refl [g] w).setCell (p := ⟨g, j, none⟩) (.inl (List.mem_singleton.2 rfl)) _) (fun z hz => .inr (.inl (by rw [List.mem_singleton.1 hz]; rfl))) ?_ ?_ ?_
  · rw [show (s.P.set j ⟨x.t, t, x.br⟩).flatMap tcl = s.P.flatMap tcl from flat_same hx rfl]
    exact own_same h.to fun q e => Below.heap_setCell _ _ _ _ (fun e' => h.ne q e (congrArg some e'.symm))
  · have h9 := (h.la.stored j (.int .i64 t)).1
    have h8 := flat_set lcl_len s.P j x ⟨x.t, t, x.br⟩ 0 (.int .i64 t) hx (by decide) rfl
    rw [Nat.mul_one, Nat.add_zero] at h8
    rw [h8] at h9
    exact h9
  · rw [show (s.P.set j ⟨x.t, t, x.br⟩).flatMap bcl = s.P.flatMap bcl from flat_same hx rfl]
    exact own_same h.br fun q e => Below.heap_setCell _ _ _ _ ((own_ty h.br e).ne (own_ty h.la rfl) (by decide))
theorem RT.bset (h : RT w0 w b ga gka G s tv lav bv lv) {g : Nat} (hg : bv.ownBlock = some g) {j : Nat} {x : Pl} (t : Bool) (hx : s.P[j]? = some x) :
    RT w0 (w.setCell ⟨g, j, none⟩ (.bool t)) b ga gka G { s with P := s.P.set j ⟨x.t, x.la, t⟩ } tv lav bv lv := by
  obtain ⟨c, rfl⟩ := own_slice h.br hg
  refine h.pset hx (S := [g]) ((Only.refl [g] w).setCell (p := ⟨g, j, none⟩) (.inl (List.mem_singleton.2 rfl)) _) (fun z hz => .inr (.inr (by rw [List.mem_singleton.1 hz]; rfl))) ?_ ?_ ?_
  · rw [show (s.P.set j ⟨x.t, x.la, t⟩).flatMap tcl = s.P.flatMap tcl from flat_same hx rfl]
    exact own_same h.to fun q e => Below.heap_setCell _ _ _ _ ((own_ty h.to e).ne (own_ty h.br rfl) (by decide))
  · rw [show (s.P.set j ⟨x.t, x.la, t⟩).flatMap lcl = s.P.flatMap lcl from flat_same hx rfl]
    exact own_same h.la fun q e => Below.heap_setCell _ _ _ _ ((own_ty h.la e).ne (own_ty h.br rfl) (by decide))
  · have h9 := (h.br.stored j (.bool t)).1
    have h8 := flat_set bcl_len s.P j x ⟨x.t, x.la, t⟩ 0 (.bool t) hx (by decide) rfl
    rw [Nat.mul_one, Nat.add_zero] at h8
    rw [h8] at h9
    exact h9
theorem RT.iset (h : RT w0 w b ga gka G s tv lav bv lv) {g : Nat} (hg : lv.ownBlock = some g) {j r : Nat} {x y : Ins} {v : Value} (hx : s.L[j]? = some x) (hr : r < 5) (e : irow y = (irow x).set r v) :
    RT w0 (w.setCell ⟨g, j * 5 + r, none⟩ v) b ga gka G { s with L := s.L.set j y } tv lav bv lv := by
  have tp := own_ty h.lo hg
  have N : ∀ {q : Nat} {t : TypeId}, TyAt w q t → t ≠ 41 → q ≠ g := fun hq ht => hq.ne tp ht
  obtain ⟨c, rfl⟩ := own_slice h.lo hg
  refine ⟨h.row.other (p := ⟨g, j * 5 + r, none⟩) (N (blk_ty h.row) (by decide)) v, h.gl, own_same h.to fun q hq => Below.heap_setCell _ _ _ _ (N (own_ty h.to hq) (by decide)), own_same h.la fun q hq => Below.heap_setCell _ _ _ _ (N (own_ty h.la hq) (by decide)), own_same h.br fun q hq => Below.heap_setCell _ _ _ _ (N (own_ty h.br hq) (by decide)), ?_, h.ne, h.gk, h.hb, h.bl.setCell (p := ⟨g, j * 5 + r, none⟩) (own_lt h.lo rfl).1 _⟩
  have h9 := (h.lo.stored (j * 5 + r) v).1
  rw [flat_set irow_len s.L j x y r v hx hr e] at h9
  rw [List.length_set]
  exact h9
/-- A store to its own row. -/
theorem RT.rset {s' : CS} (h : RT w0 w b ga gka G s tv lav bv lv) (i : Nat) (v : Value) (hr : ([.slice ga G.length gka, tv, lav, bv, lv, .int .i64 s'.dl, .int .i64 s'.nw, .int .i64 s'.ca] : List Value) = ([.slice ga G.length gka, tv, lav, bv, lv, .int .i64 s.dl, .int .i64 s.nw, .int .i64 s.ca] : List Value).set i v) (hP : s'.P = s.P) (hL : s'.L = s.L) (hG : s'.G = s.G) :
    RT w0 (w.setCell ⟨b, i, none⟩ v) b ga gka G s' tv lav bv lv := by
  have tb := blk_ty h.row
  have N : ∀ {q : Nat} {t : TypeId}, TyAt w q t → t ≠ 65 → q ≠ b := fun hq ht => hq.ne tb ht
  refine ⟨by rw [hr]; exact h.row.set i v, h.gl, ?_, ?_, ?_, ?_, h.ne, by rw [hG]; exact h.gk, h.hb, h.bl.setCell h.hb _⟩
  · rw [hP]; exact own_same h.to fun q hq => Below.heap_setCell _ _ _ _ (N (own_ty h.to hq) (by decide))
  · rw [hP]; exact own_same h.la fun q hq => Below.heap_setCell _ _ _ _ (N (own_ty h.la hq) (by decide))
  · rw [hP]; exact own_same h.br fun q hq => Below.heap_setCell _ _ _ _ (N (own_ty h.br hq) (by decide))
  · rw [hL]; exact own_same h.lo fun q hq => Below.heap_setCell _ _ _ _ (N (own_ty h.lo hq) (by decide))
/-- The list of instances is another one, and its header is stored. -/
theorem RT.newList {lv' : Value} {S : List Nat} {L' : List Ins} (h : RT w0 w b ga gka G s tv lav bv lv) (ho : Only S w w') (hS : ∀ k ∈ S, TyAt w k 41 ∧ w0.heap.size ≤ k) (hl : w'.ownsRow w0.heap.size 41 5 lv' L'.length (L'.flatMap irow)) :
    RT w0 (w'.setCell ⟨b, 4, none⟩ lv') b ga gka G { s with L := L' } tv lav bv lv' := by
  have N : ∀ {q : Nat} {t : TypeId}, TyAt w q t → t ≠ 41 → q ∉ S := fun hq ht hm => hq.ne (hS _ hm).1 ht rfl
  have hr := h.row.only ho (N (blk_ty h.row) (by decide))
  have tb := blk_ty hr
  have D : ∀ {q : Nat} {t : TypeId}, TyAt w' q t → t ≠ 65 → q ≠ b := fun hq ht => hq.ne tb ht
  have h1 := own_same h.to fun g e => ho.block g (own_lt h.to e).2 (N (own_ty h.to e) (by decide))
  have h2 := own_same h.la fun g e => ho.block g (own_lt h.la e).2 (N (own_ty h.la e) (by decide))
  have h3 := own_same h.br fun g e => ho.block g (own_lt h.br e).2 (N (own_ty h.br e) (by decide))
  exact ⟨hr.set 4 lv', h.gl, own_same h1 fun q e => Below.heap_setCell _ _ _ _ (D (own_ty h1 e) (by decide)), own_same h2 fun q e => Below.heap_setCell _ _ _ _ (D (own_ty h2 e) (by decide)), own_same h3 fun q e => Below.heap_setCell _ _ _ _ (D (own_ty h3 e) (by decide)), own_same hl fun q e => Below.heap_setCell _ _ _ _ (D (own_ty hl e) (by decide)), h.ne, h.gk, h.hb, (ho.below h.bl h.bl.size fun z hz => (hS z hz).2).setCell h.hb _⟩
end
end Go.Proofs.YtcfdejlbchdciaaGreatDoor
