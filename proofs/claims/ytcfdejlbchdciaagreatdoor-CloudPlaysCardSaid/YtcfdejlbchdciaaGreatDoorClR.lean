/-
  The program's provider: request.
-/
import Derived.Test.YtcfdejlbchdciaaGreatDoorClC
import Derived.Test.YtcfdejlbchdciaaGreatDoorClL
namespace Go.Proofs.YtcfdejlbchdciaaGreatDoor
open Go.RowKit
set_option linter.unusedVariables false
set_option linter.unusedSimpArgs false

/-- A list's block is an old one, or new. -/
def NewB (N : Nat) (lv lv' : Value) : Prop := ∀ q, lv'.ownBlock = some q → lv.ownBlock = some q ∨ N ≤ q
theorem NewB.refl {N : Nat} {lv : Value} : NewB N lv lv := fun q h => .inl h
theorem NewB.trans {N M : Nat} {a b c : Value} (h : NewB N a b) (h' : NewB M b c) (hm : N ≤ M) : NewB N a c := fun q hq => by
  rcases h' q hq with h1 | h1
  · exact h q h1
  · exact .inr (Nat.le_trans hm h1)
/-- A provider on the way of a request. -/
def CS.part (s : CS) (j : Nat) (g : Gk) (p : Pl) (like : Ins) (n k : Nat) : CS := { s with P := s.P.set j ⟨p.t + n, p.la + k, p.br⟩, L := s.L ++ moreI g.nm p.la like k }
def likeK (g : Gk) (p : Pl) (like : Ins) : Nat → Ins
  | 0 => like
  | k + 1 => { like with nm := mnm g.nm (p.la + 1 + (k : Int)), gp := g.nm }
theorem likeK_next (g : Gk) (p : Pl) (like : Ins) (k : Nat) : { likeK g p like k with nm := mnm g.nm (p.la + 1 + (k : Int)), gp := g.nm } = likeK g p like (k + 1) := by
  cases k <;> rfl
/-- The list of instances is another one, and its header is stored. -/
theorem CT.newList {w w' : World} {base b : Nat} {G : List Gp} {s : CS} {gv pv lv lv' : Value} {S : List Nat} {L' : List Ins} (h : CT w base b G s gv pv lv) (ho : Only S w w') (hS : ∀ k ∈ S, TyAt w k 41) (hl : w'.ownsRow base 41 5 lv' L'.length (L'.flatMap irow)) :
    CT (w'.setCell ⟨b, 3, none⟩ lv') base b G { s with L := L' } gv pv lv' := by
  have N : ∀ {q : Nat} {t : TypeId}, TyAt w q t → t ≠ 41 → q ∉ S := fun hq ht hm => hq.ne (hS _ hm) ht rfl
  have hr := h.row.only ho (N (blk_ty h.row) (by decide))
  have tb := blk_ty hr
  have D : ∀ {q : Nat} {t : TypeId}, TyAt w' q t → t ≠ 60 → q ≠ b := fun hq ht => hq.ne tb ht
  have hg := own_same h.go fun g e => ho.block g (own_lt h.go e).2 (N (own_ty h.go e) (by decide))
  have hp := own_same h.po fun g e => ho.block g (own_lt h.po e).2 (N (own_ty h.po e) (by decide))
  refine ⟨hr.set 3 lv', own_same hg fun q e => Below.heap_setCell _ _ _ _ (D (own_ty hg e) (by decide)), own_same hp fun q e => Below.heap_setCell _ _ _ _ (D (own_ty hp e) (by decide)), own_same hl fun q e => Below.heap_setCell _ _ _ _ (D (own_ty hl e) (by decide)), fun x hx => ?_, h.gk, h.hb⟩
  have h1 := own_same (h.ms x hx).l fun g e => ho.block g (own_lt (h.ms x hx).l e).2 (N (own_ty (h.ms x hx).l e) (by decide))
  have h2 := own_same (h.ms x hx).t fun g e => ho.block g (own_lt (h.ms x hx).t e).2 (N (own_ty (h.ms x hx).t e) (by decide))
  exact ⟨own_same h1 fun q e => Below.heap_setCell _ _ _ _ (D (own_ty h1 e) (by decide)), own_same h2 fun q e => Below.heap_setCell _ _ _ _ (D (own_ty h2 e) (by decide))⟩
theorem CT.listTy {w : World} {base b : Nat} {G : List Gp} {s : CS} {gv pv lv : Value} (h : CT w base b G s gv pv lv) : ∀ k ∈ lv.ownBlock.toList, TyAt w k 41 := fun k hk => own_ty h.lo (by simpa using hk)
theorem mo_sizes {w : World} {base : Nat} {m : Mac} (h : MO w base m) (hl : m.labs.length ≤ 1000000) (ht : m.tnts.length ≤ 1000000) : MacIn w m := h.mac (by unfold maxLen; omega) (by unfold maxLen; omega)

theorem CT.poolAt {w : World} {base b q n k : Nat} {G : List Gp} {s : CS} {gv lv : Value} (h : CT w base b G s gv (.slice (some ⟨q, 0, none⟩) n k) lv) {i : Nat} {x : Pl} (hx : s.P[i]? = some x) : q < w.heap.size ∧ w.cell? ⟨q, i * 3, none⟩ = some (.int .i64 x.t) ∧ w.cell? ⟨q, i * 3 + 1, none⟩ = some (.int .i64 x.la) ∧ w.cell? ⟨q, i * 3 + 2, none⟩ = some (.bool x.br) := by
  obtain ⟨a, k', e, hR⟩ := h.pools
  obtain ⟨g, e4, _, h2, h3⟩ := hR (by have := lt_at hx; omega)
  subst e4
  injection e with e1 e2 e3
  injection e1 with e1
  injection e1 with e1
  subst e1
  exact ⟨h2, h3 i x hx⟩
theorem CT.groupAt {w : World} {base b q o n k : Nat} {G : List Gp} {s : CS} {pv lv : Value} (h : CT w base b G s (.slice (some ⟨q, o, none⟩) n k) pv lv) {i : Nat} {x : Gp} (hx : G[i]? = some x) : q < w.heap.size ∧ ∀ r, r < 15 → w.cell? ⟨q, o + i * 15 + r, none⟩ = (grow x)[r]? := by
  obtain ⟨a, k', e, hR⟩ := h.groups
  obtain ⟨g, off, e4, h2, h3⟩ := hR (by have := lt_at hx; omega)
  subst e4
  injection e with e1 e2 e3
  injection e1 with e1
  injection e1 with e1 e5
  subst e1
  subst e5
  exact ⟨h2, h3 i x hx⟩
theorem CT.blocks {w : World} {base b : Nat} {G : List Gp} {s : CS} {gv pv lv : Value} (h : CT w base b G s gv pv lv) : ∀ k ∈ blocksOf b pv lv, base ≤ k ∧ k < w.heap.size := fun k hk => by
  unfold blocksOf at hk
  rcases List.mem_cons.1 hk with rfl | hk
  · exact ⟨h.hb, h.row.lt⟩
  · rcases List.mem_append.1 hk with hk | hk
    · exact own_lt h.po (by simpa using hk)
    · exact own_lt h.lo (by simpa using hk)
/-- A store to an instance that is no one's yet. -/
theorem CT.setI {w : World} {base b : Nat} {G : List Gp} {s : CS} {gv pv lv : Value} (h : CT w base b G s gv pv lv) {X : Nat} (hX : TyAt w X 41) (hl : ∀ z, lv.ownBlock = some z → z ≠ X) (i : Nat) (v : Value) : CT (w.setCell ⟨X, i, none⟩ v) base b G s gv pv lv :=
  h.only (S := [X]) ((Only.refl [X] w).setCell (p := ⟨X, i, none⟩) (.inl (List.mem_singleton.2 rfl)) v) (fun e => (blk_ty h.row).ne hX (by decide) (List.mem_singleton.1 e)) (fun g e m => (own_ty h.go e).ne hX (by decide) (List.mem_singleton.1 m)) (fun g e m => (own_ty h.po e).ne hX (by decide) (List.mem_singleton.1 m)) (fun g e m => hl g e (List.mem_singleton.1 m))
    (fun x hx g e m => by
      rcases e with e | e
      · exact (own_ty (h.ms x hx).l e).ne hX (by decide) (List.mem_singleton.1 m)
      · exact (own_ty (h.ms x hx).t e).ne hX (by decide) (List.mem_singleton.1 m))
theorem Only.trans2 {S T : List Nat} {a w w' : World} (h : Only T a w) (k : Only S w w') (hS : ∀ z ∈ S, z ∈ T ∨ a.heap.size ≤ z) : Only T a w' :=
  ⟨k.os.trans h.os, k.tape.trans h.tape, k.output.trans h.output, Nat.le_trans h.size k.size, fun z hz hn => (k.block z (Nat.lt_of_lt_of_le hz h.size) fun hm => by
    rcases hS z hm with h1 | h1
    · exact hn h1
    · omega).trans (h.block z hz hn)⟩
/-- A machine of which the lists are not told. -/
def AggM (M : Mac) (v : Value) : Prop := ∃ vl vt, v = .agg #[.string M.nm, .string M.gp, .int .i64 M.r0, .int .i64 M.r1, .int .i64 M.r2, .int .i64 M.r3, .int .i64 M.r4, vl, vt, .bool M.rd]
theorem field_nm (M : Mac) (vl vt : Value) (w : World) : (Instr.field 48 (.agg #[.string M.nm, .string M.gp, .int .i64 M.r0, .int .i64 M.r1, .int .i64 M.r2, .int .i64 M.r3, .int .i64 M.r4, vl, vt, .bool M.rd]) 0).run Tryz.prog w = .ok (.string M.nm) w := by kernel_rfl
theorem part_zero (s : CS) (j : Nat) (g : Gk) (p : Pl) (like : Ins) (n : Nat) : s.part j g p like n 0 = { s with P := s.P.set j ⟨p.t + n, p.la, p.br⟩ } := by
  unfold CS.part moreI
  rw [show p.la + ((0 : Nat) : Int) = p.la from Int.add_zero _]
  simp
theorem part_all (s : CS) (j : Nat) (g : Gk) (p : Pl) (like : Ins) (n : Nat) : s.part j g p like n n = s.req j g p like n := rfl
theorem part_pool {s : CS} {j : Nat} {g : Gk} {p : Pl} {like : Ins} {n k : Nat} (h : j < s.P.length) : (s.part j g p like n k).P[j]? = some ⟨p.t + n, p.la + k, p.br⟩ := by
  unfold CS.part
  rw [List.getElem?_set_self h]
theorem part_next (s : CS) (j : Nat) (g : Gk) (p : Pl) (like : Ins) (n k : Nat) : { (s.part j g p like n k) with P := (s.part j g p like n k).P.set j ⟨p.t + n, p.la + k + 1, p.br⟩, L := (s.part j g p like n k).L ++ [likeK g p like (k + 1)] } = s.part j g p like n (k + 1) := by
  unfold CS.part
  dsimp only
  rw [list_set_same, moreI_succ, ← List.append_assoc]
  have e : p.la + (k : Int) + 1 = p.la + ((k + 1 : Nat) : Int) := by omega
  rw [e]
  have e2 : likeK g p like (k + 1) = { like with nm := mnm g.nm (p.la + 1 + k), gp := g.nm } := rfl
  rw [e2]

set_option maxRecDepth 100000 in
set_option maxHeartbeats 8000000 in
theorem request_any (b : Nat) (G : List Gp) (s : CS) (gv pv lv : Value) (j : Nat) (g : Gp) (p : Pl) (like : Ins) (n m : Nat) (w0 w : World) (h : CT w w0.heap.size b G s gv pv lv) (hB0 : Below w0.heap.size w0 w) (hT : Tab10 w0)
    (hG : G[j]? = some g) (hp : s.P[j]? = some p) (hz : G.length ≤ 16) (hs : g.nm.size ≤ 300) (hl : g.like.labs.length ≤ 1000000) (ht : g.like.tnts.length ≤ 1000000) (hn : n ≤ 200) (h1 : 0 ≤ p.t ∧ p.t ≤ 1000) (h2 : 0 ≤ p.la ∧ p.la ≤ 100000000) (h3 : s.L.length ≤ 10000000) (hPl : s.P.length ≤ 16) :
    Calls Tryz.prog 22 #[.pointer (some ⟨b, 0, none⟩), .int .i64 j, .int .i64 n, .agg #[.string like.nm, .string like.gp, .int .i64 like.st, .int .i64 like.lf, .int .i64 like.si]] w fun e w' => e = .returned (.tuple #[]) ∧ ∃ lv', CT w' w0.heap.size b G (s.req j (gkOf g) p like n) gv pv lv' ∧ Only (blocksOf b pv lv) w w' ∧ NewB w.heap.size lv lv' := by
  have c2 := h.row.cell 2
  dsimp only [List.getElem?_cons_zero, List.getElem?_cons_succ] at c2
  obtain ⟨pa, pk, hpv, hR⟩ := h.pools
  have hjP : j < s.P.length := lt_at hp
  have hjG : j < G.length := lt_at hG
  obtain ⟨q, hpa, _, hq, hc⟩ := hR (by omega)
  obtain ⟨d0, d1, d2⟩ := hc j p hp
  obtain ⟨ga, gka, hgv, hGr⟩ := h.groups
  obtain ⟨gb, go, hga, hgb, _⟩ := hGr (by omega)
  have hbq : b ≠ q := (blk_ty h.row).ne (own_ty h.po (by rw [hpv, hpa]; rfl)) (by decide)
  subst hpa
  subst hpv
  subst hga
  subst hgv
  have hbl := h.row.lt
  have f0 := (h.po).frozenAt (j * 3)
  have Hh := Lib.hid h
  have hjI : (j : Int) < (s.P.length : Int) := by omega
  have hjI2 : (j : Int) < (G.length : Int) := by omega
  have hj0 : (0 : Int) ≤ (j : Int) := by omega
  obtain ⟨N, hN⟩ : ∃ N, s.P.length = N := ⟨_, rfl⟩
  have HN := Lib.hid hN
  have HjP := Lib.hid hjP
  have hSB := h.blocks
  have hqm : q ∈ blocksOf b (.slice (some ⟨q, 0, none⟩) s.P.length pk) lv := by unfold blocksOf; simp [Value.ownBlock]
  have hbm : b ∈ blocksOf b (.slice (some ⟨q, 0, none⟩) s.P.length pk) lv := by unfold blocksOf; simp
  have hlm : ∀ z, lv.ownBlock = some z → z ∈ blocksOf b (.slice (some ⟨q, 0, none⟩) s.P.length pk) lv := fun z hz => by unfold blocksOf; rw [hz]; simp
  obtain ⟨SB, hSBe⟩ : ∃ SB, SB = blocksOf b (.slice (some ⟨q, 0, none⟩) s.P.length pk) lv := ⟨_, rfl⟩
  rw [← hSBe] at hSB hqm hbm hlm ⊢
  have HSB := Lib.hid hSB
  have Hlm := Lib.hid hlm
  rw [hN] at c2 hjI hPl hjP
  have hw1 : IntKind.i64.wrap (p.t + (n : Int)) = p.t + (n : Int) := cwrap_in (by omega) (by omega)
  have HP := Lib.hid hp
  have HG := Lib.hid hG
  have HB0 := Lib.hid hB0
  have HT := Lib.hid hT
  obtain ⟨gn, hgn⟩ : ∃ gn, G.length = gn := ⟨_, rfl⟩
  have Hgn := Lib.hid hgn
  rw [hgn] at hjI2
  have HLn := Lib.hid h3
  clear h hR hc hp hG hN hB0 hT hGr hSB hlm hSBe hgn h3
  go_enter Tryz.func22, Tryz.ntmps22
  go_wp2
  obtain ⟨X, hX⟩ : ∃ X, X = w.heap.size := ⟨_, rfl⟩
  obtain ⟨W, hW⟩ : ∃ W, W = (w.setCell ⟨q, j * 3, none⟩ (.int .i64 (p.t + n))).alloc (.cells #[.string like.nm, .string like.gp, .int .i64 like.st, .int .i64 like.lf, .int .i64 like.si] 41) := ⟨_, rfl⟩
  (try rw [← hW])
  have HTW := Lib.hid (show CT W w0.heap.size b G (s.part j (gkOf g) p like n 0) (.slice (some ⟨gb, go, none⟩) G.length gka) (.slice (some ⟨q, 0, none⟩) s.P.length pk) lv from by
    rw [part_zero, hW]
    exact (Hh.out.pset (y := ⟨p.t + n, p.la, p.br⟩) (r := 0) rfl HP.out (by decide) rfl).below ((Below.refl _ _).alloc (Nat.le_refl _) _))
  have HOW := Lib.hid (show Only SB w W from by rw [hW]; exact ((Only.refl SB w).setCell (p := ⟨q, j * 3, none⟩) (.inl hqm) _).alloc _)
  have HXW := Lib.hid (show Blk W X 41 (irow (likeK (gkOf g) p like 0)) from by
    rw [hW, hX]
    have h9 := Blk.new (w.setCell ⟨q, j * 3, none⟩ (.int .i64 (p.t + n))) 41 (irow like)
    rw [World.size_setCell] at h9
    exact h9)
  (try rw [← hX])
  have HX := Lib.hid hX
  clear hW hX c2 d0 d1 d2 f0 hq hbl hgb
  go_loopw [24] (fun i wr => ∃ (k : Nat) (v : Value), k ≤ n ∧ i = .int .i64 k ∧ CT wr w0.heap.size b G (s.part j (gkOf g) p like n k) (.slice (some ⟨gb, go, none⟩) G.length gka) (.slice (some ⟨q, 0, none⟩) s.P.length pk) v ∧ Only SB w wr ∧ (∀ z, v.ownBlock = some z → lv.ownBlock = some z ∨ X < z) ∧ Blk wr X 41 (irow (likeK (gkOf g) p like k))) (fun i _ => n - (intOf i).toNat)
  case atStart => exact ⟨0, _, Nat.zero_le _, rfl, HTW.out, HOW.out, (fun z hz => .inl hz), HXW.out⟩
  case round =>
    clear HTW HOW HXW
    obtain ⟨k, v, hk, rfl, hT, hO, hV, hX⟩ := hrel
    have HTr := Lib.hid hT
    have HOr := Lib.hid hO
    have HVr := Lib.hid hV
    have HXr := Lib.hid hX
    by_cases hlt : k < n
    · obtain ⟨hq, d0, d1, d2⟩ := hT.poolAt (part_pool HjP.out)
      obtain ⟨hgb, hgc⟩ := hT.groupAt HG.out
      have hpo9 := hT.po
      rw [show (s.part j (gkOf g) p like n k).P.length = s.P.length from List.length_set] at hpo9
      have f1 := hpo9.frozenAt (j * 3 + 1)
      clear hpo9
      have b1 := hT.row.cell 1
      dsimp only [List.getElem?_cons_zero, List.getElem?_cons_succ] at b1
      obtain ⟨a0, a1, a2, a3, a4, a5, a6, a7, a8, a9, a10, a11, a12, a13, a14⟩ := grow_cells hgc
      have x1 := hX.cell 1
      have fx := hX.frozen 1
      have hXl := hX.lt
      have hbl := hT.row.lt
      have hqX : q ≠ X := (own_ty hT.po rfl).ne (blk_ty hX) (by decide)
      have hgX : gb ≠ X := (own_ty hT.go rfl).ne (blk_ty hX) (by decide)
      have hgq : gb ≠ q := (own_ty hT.go rfl).ne (own_ty hT.po rfl) (by decide)
      have hbX : b ≠ X := (blk_ty hT.row).ne (blk_ty hX) (by decide)
      have hw2 : IntKind.i64.wrap (p.la + (k : Int) + 1) = p.la + (k : Int) + 1 := cwrap_in (by omega) (by omega)
      have hgn' := Hgn.out
      rw [hgn'] at b1
      clear hT hO hV hX hgc d0 d2
      go_wp2
      obtain ⟨W1, hW1⟩ : ∃ W1, W1 = (wr.setCell ⟨q, j * 3 + 1, none⟩ (.int .i64 (p.la + k + 1))).setCell ⟨X, 1, none⟩ (.string g.nm) := ⟨_, rfl⟩
      rw [← hW1]
      have hvX : ∀ z, v.ownBlock = some z → z ≠ X := fun z hz e => by
        rcases HVr.out z hz with h9 | h9
        · have := (own_lt Hh.out.lo h9).2
          have := HX.out
          omega
        · omega
      obtain ⟨s1, hs1⟩ : ∃ s1, s1 = { (s.part j (gkOf g) p like n k) with P := (s.part j (gkOf g) p like n k).P.set j ⟨p.t + n, p.la + k + 1, p.br⟩ } := ⟨_, rfl⟩
      have hs1p : s1.P[j]? = some ⟨p.t + n, p.la + k + 1, p.br⟩ := by
        rw [hs1]
        dsimp only
        rw [List.getElem?_set_self (by show j < (s.P.set j _).length; rw [List.length_set]; exact HjP.out)]
      have hT1 : CT W1 w0.heap.size b G s1 (.slice (some ⟨gb, go, none⟩) G.length gka) (.slice (some ⟨q, 0, none⟩) s.P.length pk) v := by
        rw [hW1, hs1]
        exact (HTr.out.pset (y := ⟨p.t + n, p.la + k + 1, p.br⟩) (r := 1) rfl (part_pool HjP.out) (by decide) rfl).setI (blk_ty (HXr.out.other (p := ⟨q, j * 3 + 1, none⟩) (fun e => hqX e.symm) _)) hvX _ _
      have hX1 : Blk W1 X 41 (irow { likeK (gkOf g) p like k with gp := g.nm }) := by
        rw [hW1]
        exact (HXr.out.other (p := ⟨q, j * 3 + 1, none⟩) (fun e => hqX e.symm) _).set 1 _
      have hO1 : Only SB w W1 := by
        rw [hW1]
        exact (HOr.out.setCell (p := ⟨q, j * 3 + 1, none⟩) (.inl hqm) _).setCell (p := ⟨X, 1, none⟩) (.inr (by show _ ≤ X; have := HX.out; omega)) _
      have HT1 := Lib.hid hT1
      have HX1 := Lib.hid hX1
      have HO1 := Lib.hid hO1
      have Hs1 := Lib.hid hs1
      have HvX := Lib.hid hvX
      have hB1 : Below w0.heap.size w0 W1 := hO1.below HB0.out HB0.out.size (fun z hz => (HSB.out z hz).1)
      have HMm := Lib.hid (fun V (hV : Below W1.heap.size W1 V) => machine_any g (p.la + k + 1) V (HT.out.mono (hB1.trans (hV.mono hB1.size))) (mo_sizes ((HT1.out.below hV).ms g (List.mem_of_getElem? HG.out)) hl ht) hs hl ht)
      obtain ⟨M, hM⟩ : ∃ M, grpM g (p.la + k + 1) = M := ⟨_, rfl⟩
      rw [hM] at HMm
      have hnm : M.nm = mnm (gkOf g).nm (p.la + 1 + k) := by
        rw [← hM, grpM_nm]
        show mnm g.nm _ = mnm g.nm _
        congr 1
        omega
      have Hnm := Lib.hid hnm
      obtain ⟨_, e1, e2, _⟩ := hT1.poolAt hs1p
      obtain ⟨hgb1, hgc⟩ := hT1.groupAt HG.out
      obtain ⟨g0, g1, g2, g3, g4, g5, g6, g7, g8, g9, g10, g11, g12, g13, g14⟩ := grow_cells hgc
      have b1' := hT1.row.cell 1
      dsimp only [List.getElem?_cons_zero, List.getElem?_cons_succ] at b1'
      have x0' := hX1.cell 0
      have fx' := hX1.frozen 0
      have hX1l := hX1.lt
      have hb1l := hT1.row.lt
      have hq1l := (own_lt hT1.po rfl).2
      rw [hgn'] at b1'
      clear hW1 hs1 hs1p hT1 hX1 hO1 hB1 hM hnm hgc hvX a0 a1 a2 a3 a4 a5 a6 a7 a8 a9 a10 a11 a12 a13 a14 d1 f1 b1 x1 fx hXl hbl hq hgb hgn'
      have hcH := held_cell
      refine region_rel_tail 14 (by kernel_rfl) (by kernel_rfl) (by kernel_rfl) ?_
      dsimp only [List.take, List.drop]
      repeat
        ((with_reducible refine relStep (fun K hK => ?_))
         (have HK := Lib.hid hK)
         clear hK
         (apply relInl
          · intro r n hf
            have Hf := Lib.hid hf
            clear hf
            (first
              | (fail)
              | (unfold relAt
                 go_simp
                 (first | (refine relUpon_val ?_ (Below.refl _ _); exact rfl) | exact rfl | (refine relUpon_enter ?_; fail))))
          (simp only [Act.put, List.setIfInBounds_toArray, List.set_cons_zero, List.set_cons_succ])
          (with_reducible refine HK.out _ _ ?_)
          clear HK K))
      (with_reducible refine relStep (fun K hK => ?_))
      (have HK := Lib.hid hK)
      clear hK
      refine relInr ((fun v _ => AggM M v)) ((fun _ _ _ _ h => h)) (fun r n hf => ?_) ?_
      · have Hf := Lib.hid hf
        clear hf HK K
        unfold relAt
        (skip)
        go_simp
        ((refine relUpon_enter ?_; go_at_call 48; (with_reducible refine (HMm.out _ n.below).mono ?_); rintro e w9 ⟨⟨v, rfl, ⟨vl, vt, rfl, _⟩⟩, hb⟩; exact ⟨⟨_, rfl, ⟨vl, vt, rfl⟩⟩, hb⟩))
      (simp only [Act.put, List.setIfInBounds_toArray, List.set_cons_zero, List.set_cons_succ])
      (with_reducible refine HK.out _ _ ?_)
      clear HK K
      ((with_reducible refine relStep (fun K hK => ?_))
       (have HK := Lib.hid hK)
       clear hK
       (apply relInl
        · intro r n hf
          have Hf := Lib.hid hf
          clear hf
          ((obtain ⟨vl, vt, e9⟩ := given_at Hf.out 0 rfl (by dsimp only; decide +kernel); dsimp only at e9; unfold relAt; go_simp; rw [field_nm]; (refine relUpon_val ?_ (Below.refl _ _)); exact rfl)))
       (simp only [Act.put, List.setIfInBounds_toArray, List.set_cons_zero, List.set_cons_succ])
       (with_reducible refine HK.out _ _ ?_)
       clear HK K)
      repeat
        ((with_reducible refine relStep (fun K hK => ?_))
         (have HK := Lib.hid hK)
         clear hK
         (apply relInl
          · intro r n hf
            have Hf := Lib.hid hf
            clear hf
            (first
              | (fail)
              | (unfold relAt
                 go_simp
                 (first | (refine relUpon_val ?_ (Below.refl _ _); exact rfl) | exact rfl | (refine relUpon_enter ?_; fail))))
          (simp only [Act.put, List.setIfInBounds_toArray, List.set_cons_zero, List.set_cons_succ])
          (with_reducible refine HK.out _ _ ?_)
          clear HK K))
      refine relNil ?_
      intro r5 n5 hx5
      clear hcH
      (try simp only [List.nil_append, List.cons_append, List.mem_cons, List.not_mem_nil, or_false, forall_eq_or_imp, forall_eq, false_implies, implies_true] at hx5)
      obtain ⟨w5, hb5⟩ := n5
      (try dsimp only)
      obtain ⟨hc5, hf5⟩ := bcell hb5
      have hz5 := hb5.size
      (try simp at hz5)
      go_wp2
      obtain ⟨W2, hW2⟩ : ∃ W2, W2 = w5.setCell ⟨X, 0, none⟩ (.string M.nm) := ⟨_, rfl⟩
      rw [← hW2]
      obtain ⟨lk, hlk⟩ : ∃ lk, lk = likeK (gkOf g) p like (k + 1) := ⟨_, rfl⟩
      have Hlk := Lib.hid hlk
      have hT2 : CT W2 w0.heap.size b G s1 (.slice (some ⟨gb, go, none⟩) G.length gka) (.slice (some ⟨q, 0, none⟩) s.P.length pk) v := by
        rw [hW2]
        exact (HT1.out.below hb5).setI (blk_ty (HX1.out.below hb5)) HvX.out _ _
      have hX2 : Blk W2 X 41 (irow lk) := by
        rw [hW2, hlk, ← likeK_next, ← Hnm.out]
        exact (HX1.out.below hb5).set 0 _
      have hO2 : Only SB w W2 := by
        rw [hW2]
        exact (HO1.out.step (hb5.mono HO1.out.size)).setCell (p := ⟨X, 0, none⟩) (.inr (by show _ ≤ X; have := HX.out; omega)) _
      clear hW2 hlk
      obtain ⟨LL, hLL⟩ : ∃ LL, s1.L = LL := ⟨_, rfl⟩
      have HLL := Lib.hid hLL
      have hLb : LL.length ≤ 10000000 + 200 := by
        rw [← hLL, Hs1.out]
        show (s.L ++ moreI _ _ _ k).length ≤ _
        rw [List.length_append, moreI_len]
        have := HLn.out
        omega
      have HT2 := Lib.hid hT2
      have HO2 := Lib.hid hO2
      have b3 := hT2.row.cell 3
      dsimp only [List.getElem?_cons_zero, List.getElem?_cons_succ] at b3
      have fb3 := hT2.row.frozen 3
      have hb2l := hT2.row.lt
      have hX2l := hX2.lt
      have i0 := hX2.cell 0
      have i1 := hX2.cell 1
      have i2 := hX2.cell 2
      have i3 := hX2.cell 3
      have i4 := hX2.cell 4
      dsimp only [irow, List.getElem?_cons_zero, List.getElem?_cons_succ] at i0 i1 i2 i3 i4
      have HX2 := Lib.hid hX2
      obtain ⟨S, hS⟩ : ∃ S, S = v.ownBlock.toList := ⟨_, rfl⟩
      have HS := Lib.hid hS
      have hST : ∀ z ∈ S, TyAt W2 z 41 := fun z hz => hT2.listTy z (by rw [← hS]; exact hz)
      have HST := Lib.hid hST
      have hbS : b ∉ S := fun hm => (blk_ty hT2.row).ne (hST b hm) (by decide) rfl
      have hXS : X ∉ S := fun hm => HvX.out X (by rw [hS] at hm; simpa using hm) rfl
      have HSW := Lib.hid (show ∀ z ∈ S, z < W2.heap.size from fun z hz => (own_lt hT2.lo (by rw [hS] at hz; simpa using hz)).2)
      have hwW : w0.heap.size ≤ W2.heap.size := Nat.le_trans HB0.out.size hO2.size
      have hLo := hT2.lo
      rw [hLL] at hLo
      have HLo := Lib.hid hLo
      obtain ⟨i0, hi, hz0, hz1, hz2⟩ := info_parts Tryz.info41
      have Hi := Lib.hid hi
      have Hz0 := Lib.hid hz0
      have Hz1 := Lib.hid hz1
      have Hz2 := Lib.hid hz2
      clear hi hz0 hz1 hz2
      clear hT2 hX2 hO2 hS hST hLL hLo hb5 hc5 hf5 hz5 e1 e2 g0 g1 g2 g3 g4 g5 g6 g7 g8 g9 g10 g11 g12 g13 g14 b1' x0' fx' hX1l hb1l hq1l hgb1
      have hcH := heldS_cell (S := S)
      refine region_turn S 7 10 (by kernel_rfl) (by kernel_rfl) (by kernel_rfl) ?_
      dsimp only [List.take, List.drop]
      repeat
        ((with_reducible refine turnStep (fun K hK => ?_))
         (have HK := Lib.hid hK)
         clear hK
         (apply turnInl (by decide)
          · intro r n hf
            have Hf := Lib.hid hf
            clear hf
            (first
              | (fail)
              | (unfold relAt
                 go_simp
                 (first | (refine relUpon_val ?_ (Below.refl _ _); exact rfl) | exact rfl | (refine relUpon_enter ?_; fail))))
          (simp only [Act.put, List.setIfInBounds_toArray, List.set_cons_zero, List.set_cons_succ])
          (with_reducible refine HK.out _ _ ?_)
          clear HK K))
      (with_reducible refine turnStep (fun K hK => ?_))
      (have HK := Lib.hid hK)
      clear hK
      refine turnInr (by decide) (NewRow W2 41 [.string lk.nm, .string lk.gp, .int .i64 lk.st, .int .i64 lk.lf, .int .i64 lk.si] 1) (NewRow.stays HSW.out _ _ _) (fun r n hf => ?_) ?_
      · have Hf := Lib.hid hf
        clear hf HK K
        unfold relAt
        (skip)
        go_simp
        ((refine relUpon_val ?_ ?_; exact NewRow.mk n _ _ _; exact (Below.refl _ _).alloc (Nat.le_refl _) _))
      (simp only [Act.put, List.setIfInBounds_toArray, List.set_cons_zero, List.set_cons_succ])
      (with_reducible refine HK.out _ _ ?_)
      clear HK K
      (with_reducible refine turnStep (fun K hK => ?_))
      (have HK := Lib.hid hK)
      clear hK
      refine turnApp (by decide) (fun u w' => ∃ z cap, u = .slice (some ⟨z, 0, none⟩) (LL.length + 1) cap ∧ w'.ownsRow w0.heap.size 41 5 u (LL.length + 1) (LL.flatMap irow ++ [.string lk.nm, .string lk.gp, .int .i64 lk.st, .int .i64 lk.lf, .int .i64 lk.si]) ∧ (v.ownBlock = some z ∨ W2.heap.size ≤ z)) ((fun u w1 w' hb ⟨z, cap, e, h, h'⟩ => ⟨z, cap, e, own_kept h hb, h'⟩)) (fun r n hf => ?_) ?_
      · have Hf := Lib.hid hf
        clear hf HK K
        ((obtain ⟨Bx, e1, hB, hb⟩ := given_at Hf.out 0 rfl (by dsimp only; decide +kernel); refine turn_append rfl _ _ _ rfl w0.heap.size 41 i0 _ 5 56 Tryz.underlying38 Hi.out Hz0.out Hz1.out Hz2.out rfl (by decide) v LL.length (LL.flatMap irow) rfl (own_kept HLo.out n.below) ⟨Bx, 0, none⟩ 1 1 [.string lk.nm, .string lk.gp, .int .i64 lk.st, .int .i64 lk.lf, .int .i64 lk.si] e1 rfl (NewRow.news hb) (by simp [Value.oneCell']) (by decide) (by unfold maxLen; omega) (by omega) (by have := n.below.size; omega) (fun z hz => by rw [HS.out, hz]; simp) ?_; intro z cap w' k1 k2 k3; exact ⟨z, cap, rfl, k1, k3.imp_right (fun e => by rw [e]; exact n.below.size)⟩))
      (simp only [Act.put, List.setIfInBounds_toArray, List.set_cons_zero, List.set_cons_succ])
      (with_reducible refine HK.out _ _ ?_)
      clear HK K
      repeat
        ((with_reducible refine turnStep (fun K hK => ?_))
         (have HK := Lib.hid hK)
         clear hK
         (apply turnInl (by decide)
          · intro r n hf
            have Hf := Lib.hid hf
            clear hf
            (first
              | (fail)
              | (unfold relAt
                 go_simp
                 (first | (refine relUpon_val ?_ (Below.refl _ _); exact rfl) | exact rfl | (refine relUpon_enter ?_; fail))))
          (simp only [Act.put, List.setIfInBounds_toArray, List.set_cons_zero, List.set_cons_succ])
          (with_reducible refine HK.out _ _ ?_)
          clear HK K))
      refine turnNil ?_
      intro r6 n6 hx6
      clear hcH
      (try simp only [List.nil_append, List.cons_append, List.mem_cons, List.not_mem_nil, or_false, forall_eq_or_imp, forall_eq, false_implies, implies_true] at hx6)
      obtain ⟨w6, ho6⟩ := n6
      (try dsimp only)
      obtain ⟨-, z, cap, e1, hown, hzq⟩ := hx6
      rw [e1] at hown ⊢
      have f6 : w6.frozen? ⟨b, 3, none⟩ = false := (World.frozen?_of_block (ho6.block b hb2l hbS)).trans fb3
      have x6 : w6.cell? ⟨b, 3, none⟩ = some v := (World.cell?_of_block (ho6.block b hb2l hbS)).trans b3
      have hbl6 : b < w6.heap.size := Nat.lt_of_lt_of_le hb2l ho6.size
      have e9 : LL.flatMap irow ++ [.string lk.nm, .string lk.gp, .int .i64 lk.st, .int .i64 lk.lf, .int .i64 lk.si] = (LL ++ [lk]).flatMap irow := by
        rw [List.flatMap_append]
        rfl
      have hown2 : w6.ownsRow w0.heap.size 41 5 (.slice (some ⟨z, 0, none⟩) (LL.length + 1) cap) (LL ++ [lk]).length ((LL ++ [lk]).flatMap irow) := by
        rw [← e9, List.length_append]
        exact hown
      have HT6 := Lib.hid (HT2.out.newList ho6 HST.out hown2)
      have HO6 := Lib.hid ((HO2.out.trans2 ho6 fun y hy => by
        rw [HS.out] at hy
        rcases HVr.out y (by simpa using hy) with h9 | h9
        · exact .inl (Hlm.out y h9)
        · exact .inr (by have := HX.out; omega)).setCell (p := ⟨b, 3, none⟩) (.inl hbm) (.slice (some ⟨z, 0, none⟩) (LL.length + 1) cap))
      have HX6 := Lib.hid ((HX2.out.only ho6 hXS).other (p := ⟨b, 3, none⟩) (fun e => hbX e.symm) (.slice (some ⟨z, 0, none⟩) (LL.length + 1) cap))
      have HV6 := Lib.hid (show ∀ y, (Value.slice (some ⟨z, 0, none⟩) (LL.length + 1) cap).ownBlock = some y → lv.ownBlock = some y ∨ X < y from fun y hy => by
        obtain rfl : z = y := Option.some.inj hy
        rcases hzq with h9 | h9
        · exact HVr.out z h9
        · exact .inr (by omega))
      have hS6 : { s1 with L := LL ++ [lk] } = s.part j (gkOf g) p like n (k + 1) := by
        rw [← part_next, ← HLL.out, Hs1.out, Hlk.out]
      rw [hS6] at HT6
      rw [Hlk.out] at HX6
      clear ho6 hown hown2 hS6 e9
      go_wp2
      go_roundw
      case rel => exact ⟨k + 1, _, by omega, by go_num, HT6.out, HO6.out, HV6.out, HX6.out⟩
      case measure => simp [intOf]; omega
    · obtain rfl : k = n := by omega
      clear hT hO hV hX
      go_wp2
      go_end0
      exact ⟨rfl, v, HTr.out, HOr.out, fun z hz => (HVr.out z hz).imp_right fun h9 => by have := HX.out; omega⟩
end Go.Proofs.YtcfdejlbchdciaaGreatDoor
