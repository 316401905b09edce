/-
  The scanner in memory: its cells, single stores; what its calls turn; add.
-/
import Derived.Test.YtlndfognkkobaaaLexX
import Derived.Test.YtlndfognkkobaaaMA
namespace Go.Proofs.Ytlndfognkkobaaa
open Go.RowKit
set_option linter.unusedVariables false
set_option linter.unusedSimpArgs false

theorem cwrap_in {x : Int} (h1 : -9223372036854775808 ≤ x) (h2 : x ≤ 9223372036854775807) : IntKind.i64.wrap x = x := by rw [IntKind.wrap_i64]; omega
theorem own_same {w w' : World} {B : Nat} {v : Value} {n k : Nat} {e : TypeId} {xs : List Value} (h : w.ownsRow B e k v n xs) (hb : ∀ g, v.ownBlock = some g → w'.heap[g]? = w.heap[g]?) : w'.ownsRow B e k v n xs := by
  refine ⟨h.1, ?_⟩
  rcases h.2 with h | ⟨g, cap, cur, rfl, h1, h2, h3⟩
  · exact .inl h
  · exact .inr ⟨g, cap, cur, rfl, h1, (hb g rfl).trans h2, h3⟩
theorem own_lt {w : World} {B : Nat} {v : Value} {n k : Nat} {e : TypeId} {xs : List Value} (h : w.ownsRow B e k v n xs) {g : Nat} (hg : v.ownBlock = some g) : B ≤ g ∧ g < w.heap.size := by
  rcases h.2 with ⟨rfl, _⟩ | ⟨g', cap, cur, rfl, h1, h2, h3⟩
  · cases hg
  · obtain rfl : g' = g := Option.some.inj hg
    exact ⟨h1, (Array.getElem?_eq_some_iff.1 h2).1⟩
/-- The type of what lies in a block. -/
def TyAt (w : World) (g : Nat) (t : TypeId) : Prop := ∃ xs, w.heap[g]? = some (.cells xs t)
theorem TyAt.ne {w : World} {g q : Nat} {t t' : TypeId} (h : TyAt w g t) (h' : TyAt w q t') (ht : t ≠ t') : g ≠ q := fun e => by
  subst e
  obtain ⟨x, h⟩ := h
  obtain ⟨y, h'⟩ := h'
  rw [h] at h'
  injection h' with h'
  injection h' with _ h2
  exact ht h2
theorem own_ty {w : World} {B : Nat} {v : Value} {n k : Nat} {e : TypeId} {xs : List Value} (h : w.ownsRow B e k v n xs) {g : Nat} (hg : v.ownBlock = some g) : TyAt w g e := by
  rcases h.2 with ⟨rfl, _⟩ | ⟨g', cap, cur, rfl, h1, h2, h3⟩
  · cases hg
  · obtain rfl : g' = g := Option.some.inj hg
    exact ⟨_, h2⟩
theorem blk_ty {w : World} {b : Nat} {t : TypeId} {cs : List Value} (h : Blk w b t cs) : TyAt w b t := ⟨_, h⟩
/-- What a call turns: of the blocks from a base on only those of some types, and new ones. -/
structure Fr (base : Nat) (T : List TypeId) (w w' : World) : Prop where
  os : w'.os = w.os
  tape : w'.tape = w.tape
  output : w'.output = w.output
  size : w.heap.size ≤ w'.heap.size
  block : ∀ k, k < w.heap.size → (k < base ∨ ∀ t ∈ T, ¬ TyAt w k t) → w'.heap[k]? = w.heap[k]?
section
variable {base B : Nat} {T : List TypeId} {w0 w w1 w' : World}
theorem Fr.refl : Fr base T w w := ⟨rfl, rfl, rfl, Nat.le_refl _, fun _ _ _ => rfl⟩
theorem Fr.trans (h : Fr base T w w1) (k : Fr base T w1 w') : Fr base T w w' :=
  ⟨k.os.trans h.os, k.tape.trans h.tape, k.output.trans h.output, Nat.le_trans h.size k.size, fun i hi hs => by
    have h1 := h.block i hi hs
    refine (k.block i (Nat.lt_of_lt_of_le hi h.size) ?_).trans h1
    rcases hs with hs | hs
    · exact .inl hs
    · exact .inr fun t ht ⟨x, hx⟩ => hs t ht ⟨x, by rw [← h1]; exact hx⟩⟩
theorem Fr.of_only {S : List Nat} (h : Only S w w') (hS : ∀ z ∈ S, base ≤ z ∧ ∃ t ∈ T, TyAt w z t) : Fr base T w w' :=
  ⟨h.os, h.tape, h.output, h.size, fun k hk hs => h.block k hk fun hm => by
    obtain ⟨h1, t, ht, h2⟩ := hS k hm
    rcases hs with hs | hs
    · omega
    · exact hs t ht h2⟩
theorem Fr.of_below (h : Below w.heap.size w w') : Fr base T w w' := Fr.of_only (S := []) (Only.of_below h) fun z hz => by cases hz
theorem Fr.setCell {b i : Nat} {t : TypeId} (v : Value) (hb : base ≤ b) (ht : TyAt w b t) (hT : t ∈ T) : Fr base T w (w.setCell ⟨b, i, none⟩ v) :=
  Fr.of_only (S := [b]) ((Only.refl _ _).setCell (p := ⟨b, i, none⟩) (.inl (by simp)) v) fun z hz => by
    rw [List.mem_singleton.1 hz]
    exact ⟨hb, t, hT, ht⟩
theorem Fr.below (h : Fr base T w w') (hb : Below B w0 w) (hB : B ≤ base) (hw : B ≤ w.heap.size) : Below B w0 w' :=
  ⟨h.os.trans hb.os, h.tape.trans hb.tape, h.output.trans hb.output, Nat.le_trans hb.size h.size, fun k hk => (h.block k (by omega) (.inl (by omega))).trans (hb.block k hk)⟩
end
def u8c (x : UInt8) : List Value := [.int .u8 (x.toNat : Int)]
theorem u8c_len (x : UInt8) : (u8c x).length = 1 := rfl
def srow (src : ByteArray) (s : SC) (tv cv : Value) : List Value := [.string src, tv, .int .i64 s.md, .int .i64 s.cu.kd, .string s.cu.tx, .int .i64 s.cu.po, .int .i64 s.cu.ln, .int .i64 s.cu.cl, cv, .int .i64 s.ru, .int .i64 s.ln, .int .i64 s.cl]
abbrev TS : List TypeId := [67, 59, 5]
structure ST (w : World) (base b : Nat) (src : ByteArray) (s : SC) (tv cv : Value) : Prop where
  row : Blk w b 67 (srow src s tv cv)
  tk : w.ownsRow base 59 5 tv s.tk.length (s.tk.flatMap tkrow)
  ct : w.ownsRow base 5 1 cv s.ct.length (s.ct.flatMap u8c)
  hb : base ≤ b
section
variable {w w' : World} {base b : Nat} {src : ByteArray} {s s' : SC} {tv cv cv' : Value}
theorem ST.below (h : ST w base b src s tv cv) (hb : Below w.heap.size w w') : ST w' base b src s tv cv :=
  ⟨h.row.below hb, own_kept h.tk hb, own_kept h.ct hb, h.hb⟩
theorem ST.rset (h : ST w base b src s tv cv) (i : Nat) (v : Value) (hr : srow src s' tv cv = (srow src s tv cv).set i v) (hk : s'.tk = s.tk) (hc : s'.ct = s.ct) : ST (w.setCell ⟨b, i, none⟩ v) base b src s' tv cv := by
  have tb := blk_ty h.row
  refine ⟨by rw [hr]; exact h.row.set i v, ?_, ?_, h.hb⟩
  · rw [hk]; exact own_same h.tk fun q e => Below.heap_setCell _ _ _ _ ((own_ty h.tk e).ne tb (by decide))
  · rw [hc]; exact own_same h.ct fun q e => Below.heap_setCell _ _ _ _ ((own_ty h.ct e).ne tb (by decide))
theorem ST.fr (h : ST w base b src s tv cv) (i : Nat) (v : Value) : Fr base TS w (w.setCell ⟨b, i, none⟩ v) := Fr.setCell v h.hb (blk_ty h.row) (by simp [TS])
end
section
variable {w w' : World} {base b : Nat} {src : ByteArray} {s : SC} {tv cv v' : Value} {S : List Nat}
theorem ST.newTk {L : List Tk} (h : ST w base b src s tv cv) (ho : Only S w w') (hS : ∀ z ∈ S, TyAt w z 59) (hl : w'.ownsRow base 59 5 v' L.length (L.flatMap tkrow)) : ST (w'.setCell ⟨b, 1, none⟩ v') base b src { s with tk := L } v' cv := by
  have N : ∀ {q : Nat} {t : TypeId}, TyAt w q t → t ≠ 59 → q ∉ S := fun hq ht hm => hq.ne (hS _ hm) ht rfl
  have hr := h.row.only ho (N (blk_ty h.row) (by decide))
  have tb := blk_ty hr
  have hc := own_same h.ct fun g e => ho.block g (own_lt h.ct e).2 (N (own_ty h.ct e) (by decide))
  exact ⟨hr.set 1 v', own_same hl fun q e => Below.heap_setCell _ _ _ _ ((own_ty hl e).ne tb (by decide)), own_same hc fun q e => Below.heap_setCell _ _ _ _ ((own_ty hc e).ne tb (by decide)), h.hb⟩
theorem ST.newCt {L : List UInt8} (h : ST w base b src s tv cv) (ho : Only S w w') (hS : ∀ z ∈ S, TyAt w z 5) (hl : w'.ownsRow base 5 1 v' L.length (L.flatMap u8c)) : ST (w'.setCell ⟨b, 8, none⟩ v') base b src { s with ct := L } tv v' := by
  have N : ∀ {q : Nat} {t : TypeId}, TyAt w q t → t ≠ 5 → q ∉ S := fun hq ht hm => hq.ne (hS _ hm) ht rfl
  have hr := h.row.only ho (N (blk_ty h.row) (by decide))
  have tb := blk_ty hr
  have hc := own_same h.tk fun g e => ho.block g (own_lt h.tk e).2 (N (own_ty h.tk e) (by decide))
  exact ⟨hr.set 8 v', own_same hc fun q e => Below.heap_setCell _ _ _ _ ((own_ty hc e).ne tb (by decide)), own_same hl fun q e => Below.heap_setCell _ _ _ _ ((own_ty hl e).ne tb (by decide)), h.hb⟩
end
theorem Try.info59 : (Try.prog.info? 59).map (fun i => (i.zero, i.size, i.bytes)) = some (some (.agg #[.int .i64 0, .string ⟨#[]⟩, .int .i64 0, .int .i64 0, .int .i64 0]), 5, 48) := by kernel_rfl
set_option maxRecDepth 100000 in
set_option maxHeartbeats 4000000 in
theorem sadd_any (base b : Nat) (src : ByteArray) (s : SC) (tv cv : Value) (k : Int) (x : ByteArray) (w : World) (h : ST w base b src s tv cv) (hn : s.tk.length ≤ 1000000) :
    Calls Try.prog 67 #[.pointer (some ⟨b, 0, none⟩), .int .i64 k, .string x] w fun e w' => e = .returned (.tuple #[]) ∧ (∃ tv', ST w' base b src (s.add k x) tv' cv) ∧ Fr base TS w w' := by
  have c3 := h.row.cell 3
  have c4 := h.row.cell 4
  have f3 := h.row.frozen 3
  have f4 := h.row.frozen 4
  dsimp only [srow, List.getElem?_cons_zero, List.getElem?_cons_succ] at c3 c4
  have hbl := h.row.lt
  have Hh := Lib.hid h
  clear h
  go_enter Try.func67, Try.ntmps67
  go_wp2
  obtain ⟨W, hW⟩ : ∃ W, W = (w.setCell ⟨b, 3, none⟩ (.int .i64 k)).setCell ⟨b, 4, none⟩ (.string x) := ⟨_, rfl⟩
  rw [← hW]
  have h1 := Hh.out.rset (s' := { s with cu := { s.cu with kd := k } }) 3 (.int .i64 k) rfl rfl rfl
  have h2 : ST W base b src { s with cu := { s.cu with kd := k, tx := x } } tv cv := by
    rw [hW]
    exact h1.rset (s' := { s with cu := { s.cu with kd := k, tx := x } }) 4 (.string x) rfl rfl rfl
  have HFW := Lib.hid (show Fr base TS w W from by rw [hW]; exact (Hh.out.fr 3 _).trans (h1.fr 4 _))
  have HW := Lib.hid h2
  obtain ⟨po, hpo⟩ : ∃ q, s.cu.po = q := ⟨_, rfl⟩
  obtain ⟨ln, hln⟩ : ∃ q, s.cu.ln = q := ⟨_, rfl⟩
  obtain ⟨cl, hcl⟩ : ∃ q, s.cu.cl = q := ⟨_, rfl⟩
  have y1 := h2.row.cell 1
  have y3 := h2.row.cell 3
  have y4 := h2.row.cell 4
  have y5 := h2.row.cell 5
  have y6 := h2.row.cell 6
  have y7 := h2.row.cell 7
  dsimp only [srow, List.getElem?_cons_zero, List.getElem?_cons_succ] at y1 y3 y4 y5 y6 y7
  rw [hpo] at y5
  rw [hln] at y6
  rw [hcl] at y7
  have hbl2 := h2.row.lt
  obtain ⟨S, hS⟩ : ∃ S, S = tv.ownBlock.toList := ⟨_, rfl⟩
  have HS := Lib.hid hS
  have hST : ∀ z ∈ S, TyAt W z 59 := fun z hz => own_ty h2.tk (by rw [hS] at hz; simpa using hz)
  have HST := Lib.hid hST
  have HSB := Lib.hid (show ∀ z ∈ S, base ≤ z from fun z hz => (own_lt h2.tk (by rw [hS] at hz; simpa using hz)).1)
  have hbS : b ∉ S := fun hm => (blk_ty h2.row).ne (hST b hm) (by decide) rfl
  have HSW := Lib.hid (show ∀ z ∈ S, z < W.heap.size from fun z hz => (own_lt h2.tk (by rw [hS] at hz; simpa using hz)).2)
  have hbw : base ≤ W.heap.size := by have := h2.hb; omega
  obtain ⟨L, hL⟩ : ∃ L, s.tk = L := ⟨_, rfl⟩
  have hOw : W.ownsRow base 59 5 tv L.length (L.flatMap tkrow) := by rw [← hL]; exact h2.tk
  have HOw := Lib.hid hOw
  have HE := Lib.hid (show s.cu.po = po ∧ s.cu.ln = ln ∧ s.cu.cl = cl ∧ s.tk = L from ⟨hpo, hln, hcl, hL⟩)
  rw [hL] at hn
  obtain ⟨i0, hi, hz0, hz1, hz2⟩ := info_parts Try.info59
  have Hi := Lib.hid hi
  have Hz0 := Lib.hid hz0
  have Hz1 := Lib.hid hz1
  have Hz2 := Lib.hid hz2
  clear hi hz0 hz1 hz2
  clear hW h1 h2 hpo hln hcl c3 c4 f3 f4 hbl hS hST hL hOw
  have hcH := heldS_cell (S := S)
  refine region_turn S 10 13 (by kernel_rfl) (by kernel_rfl) (by kernel_rfl) ?_
  dsimp only [List.take, List.drop]
  repeat
    ((with_reducible refine turnStep (fun K hK => ?_))
     (have HK := Lib.hid hK)
     clear hK
     (apply turnInl (by decide)
      · intro r n hf
        have Hf := Lib.hid hf
        clear hf
        (first
          | (fail)
          | (unfold relAt
             go_simp
             (first | (refine relUpon_val ?_ (Below.refl _ _); exact rfl) | exact rfl | (refine relUpon_enter ?_; fail))))
      (simp only [Act.put, List.setIfInBounds_toArray, List.set_cons_zero, List.set_cons_succ])
      (with_reducible refine HK.out _ _ ?_)
      clear HK K))
  (with_reducible refine turnStep (fun K hK => ?_))
  (have HK := Lib.hid hK)
  clear hK
  refine turnInr (by decide) (NewRow W 59 [.int .i64 k, .string x, .int .i64 po, .int .i64 ln, .int .i64 cl] 1) (NewRow.stays HSW.out _ _ _) (fun r n hf => ?_) ?_
  · have Hf := Lib.hid hf
    clear hf HK K
    unfold relAt
    (skip)
    go_simp
    ((refine relUpon_val ?_ ?_; exact NewRow.mk n _ _ _; exact (Below.refl _ _).alloc (Nat.le_refl _) _))
  (simp only [Act.put, List.setIfInBounds_toArray, List.set_cons_zero, List.set_cons_succ])
  (with_reducible refine HK.out _ _ ?_)
  clear HK K
  (with_reducible refine turnStep (fun K hK => ?_))
  (have HK := Lib.hid hK)
  clear hK
  refine turnApp (by decide) (fun u w' => ∃ z cap, u = .slice (some ⟨z, 0, none⟩) (L.length + 1) cap ∧ w'.ownsRow base 59 5 u (L.length + 1) (L.flatMap tkrow ++ [.int .i64 k, .string x, .int .i64 po, .int .i64 ln, .int .i64 cl])) ((fun u w1 w' hb ⟨z, cap, e, h⟩ => ⟨z, cap, e, own_kept h hb⟩)) (fun r n hf => ?_) ?_
  · have Hf := Lib.hid hf
    clear hf HK K
    ((obtain ⟨Bx, e1, hB, hb⟩ := given_at Hf.out 0 rfl (by dsimp only; decide +kernel); refine turn_append rfl _ _ _ rfl base 59 i0 _ 5 48 Try.underlying55 Hi.out Hz0.out Hz1.out Hz2.out rfl (by decide) tv L.length (L.flatMap tkrow) rfl (own_kept HOw.out n.below) ⟨Bx, 0, none⟩ 1 1 [.int .i64 k, .string x, .int .i64 po, .int .i64 ln, .int .i64 cl] e1 rfl (NewRow.news hb) (by simp [Value.oneCell']) (by decide) (by unfold maxLen; omega) (by omega) (by have := n.below.size; omega) (fun z hz => by rw [HS.out, hz]; simp) ?_; intro z cap w' k1 k2 k3; exact ⟨z, cap, rfl, k1⟩))
  (simp only [Act.put, List.setIfInBounds_toArray, List.set_cons_zero, List.set_cons_succ])
  (with_reducible refine HK.out _ _ ?_)
  clear HK K
  repeat
    ((with_reducible refine turnStep (fun K hK => ?_))
     (have HK := Lib.hid hK)
     clear hK
     (apply turnInl (by decide)
      · intro r n hf
        have Hf := Lib.hid hf
        clear hf
        (first
          | (fail)
          | (unfold relAt
             go_simp
             (first | (refine relUpon_val ?_ (Below.refl _ _); exact rfl) | exact rfl | (refine relUpon_enter ?_; fail))))
      (simp only [Act.put, List.setIfInBounds_toArray, List.set_cons_zero, List.set_cons_succ])
      (with_reducible refine HK.out _ _ ?_)
      clear HK K))
  refine turnNil ?_
  intro r6 n6 hx6
  clear hcH
  (try simp only [List.nil_append, List.cons_append, List.mem_cons, List.not_mem_nil, or_false, forall_eq_or_imp, forall_eq, false_implies, implies_true] at hx6)
  obtain ⟨w6, ho6⟩ := n6
  (try dsimp only)
  obtain ⟨-, z, cap, e1, hown⟩ := hx6
  rw [e1] at hown ⊢
  have hr6 := HW.out.row.only ho6 hbS
  have f6 := hr6.frozen 1
  have x6 := hr6.cell 1
  have hbl6 := hr6.lt
  dsimp only [srow, List.getElem?_cons_zero, List.getElem?_cons_succ] at x6
  obtain ⟨q1, q2, q3, q4⟩ := HE.out
  have hown2 : w6.ownsRow base 59 5 (.slice (some ⟨z, 0, none⟩) (L.length + 1) cap) (L ++ [(⟨k, x, po, ln, cl⟩ : Tk)]).length ((L ++ [(⟨k, x, po, ln, cl⟩ : Tk)]).flatMap tkrow) := by
    rw [List.length_append, List.flatMap_append]
    exact hown
  have HT6 := Lib.hid (HW.out.newTk ho6 HST.out hown2)
  have HF6 := Lib.hid (HFW.out.trans ((Fr.of_only ho6 fun z hz => ⟨HSB.out z hz, 59, by simp [TS], HST.out z hz⟩).trans (Fr.setCell (i := 1) (.slice (some ⟨z, 0, none⟩) (L.length + 1) cap) HW.out.hb (blk_ty hr6) (by simp [TS]))))
  obtain ⟨W6, hW6⟩ : ∃ W6, W6 = w6.setCell ⟨b, 1, none⟩ (.slice (some ⟨z, 0, none⟩) (L.length + 1) cap) := ⟨_, rfl⟩
  have f2 := HT6.out.row.frozen 2
  have x2 := HT6.out.row.cell 2
  dsimp only [srow, List.getElem?_cons_zero, List.getElem?_cons_succ] at x2
  go_wp2
  go_end0
  have h9 := HT6.out.rset (s' := { s with cu := { s.cu with kd := k, tx := x }, tk := L ++ [(⟨k, x, po, ln, cl⟩ : Tk)], md := 0 }) 2 (.int .i64 0) rfl rfl rfl
  have h8 := HF6.out.trans (HT6.out.fr 2 (.int .i64 0))
  obtain ⟨V, hV⟩ : ∃ V, V = ((w6.setCell ⟨b, 1, none⟩ (.slice (some ⟨z, 0, none⟩) (L.length + 1) cap)).setCell ⟨b, 2, none⟩ (.int .i64 0)) := ⟨_, rfl⟩
  rw [← hV] at h9 h8 ⊢
  refine ⟨rfl, ⟨.slice (some ⟨z, 0, none⟩) (L.length + 1) cap, ?_⟩, h8⟩
  have e9 : (⟨k, x, po, ln, cl⟩ : Tk) = { s.cu with kd := k, tx := x } := by rw [← q1, ← q2, ← q3]
  have hs : ({ s with cu := { s.cu with kd := k, tx := x }, tk := L ++ [(⟨k, x, po, ln, cl⟩ : Tk)], md := 0 } : SC) = s.add k x := by
    rw [e9, ← q4]
    rfl
  rw [hs] at h9
  exact h9
end Go.Proofs.Ytlndfognkkobaaa
