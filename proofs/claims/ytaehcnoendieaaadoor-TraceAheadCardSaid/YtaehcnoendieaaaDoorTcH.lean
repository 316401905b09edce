/-
  strings.Builder: WriteByte, WriteString, String, of a builder of the call's own.
-/
import Derived.Test.YtaehcnoendieaaaDoorTcL
namespace Go.Proofs.YtaehcnoendieaaaDoor
open Go.RowKit
set_option linter.unusedVariables false
set_option linter.unusedSimpArgs false

abbrev TB : List TypeId := [58, 5]
def IsBld (w : World) (B b : Nat) (l : List UInt8) : Prop := Lib.IsBuilder 58 5 B b (Lib.byteCells l) w
theorem bld_ty {w : World} {B b : Nat} {p : Value} {bs : List Value} (h : Lib.BuilderAt 58 5 B b p bs w) : TyAt w b 58 := by
  obtain ⟨_, v, h1, _⟩ := h
  exact ⟨_, h1⟩
theorem bld_info : (Tryd.prog.info? 58).map (·.size) = some 2 := by kernel_rfl
set_option maxRecDepth 100000 in
theorem bcheck_any (B b : Nat) (bs : List Value) (w : World) (h : Lib.IsBuilder 58 5 B b bs w) :
    Calls Tryd.prog 47 #[.pointer (some ⟨b, 0, none⟩)] w fun e w' => e = .returned (.tuple #[]) ∧ Lib.BuilderAt 58 5 B b (.pointer (some ⟨b, 0, none⟩)) bs w' ∧ Fr B TB w w' := by
  obtain ⟨j, hj, hjs⟩ := Option.map_eq_some_iff.1 bld_info
  rcases h with h | h
  · have h0 := h.cell0
    have hsh := h.shape
    have hfz := h.frozen0
    have e1 : (convert 55 93 (.pointer (some ⟨b, 0, none⟩))).run Tryd.prog w = _ := Lib.run_to_unsafe w ⟨b, 0, none⟩ Tryd.underlying55 Tryd.underlying93 hj (by rw [hjs]; decide) hsh (Nat.zero_lt_succ 1)
    have e3 : (convert 93 55 (.pointer (some ⟨b, 0, none⟩))).run Tryd.prog w = _ := Lib.run_from_unsafe w ⟨b, 0, none⟩ Tryd.underlying93 Tryd.underlying55 hj hsh builderX.liesBuilder
    have e2 : (callFunc 56 #[.pointer (some ⟨b, 0, none⟩)]).run Tryd.prog w = _ := run_callFunc_extern Tryd.func56 (by kernel_rfl) (by kernel_rfl) (by kernel_rfl) (e := Extern.AbiNoEscape.same) (by kernel_rfl) _ _
    have e4 := Lib.run_neq_ptr_same (P := Tryd.prog) (w.setCell ⟨b, 0, none⟩ (.pointer (some ⟨b, 0, none⟩))) ⟨b, 0, none⟩ Tryd.underlying55 hj
    rw [Lib.run_noEscape] at e2
    have Hh := Lib.hid h
    clear h hsh
    go_enter Tryd.func47, Tryd.ntmps47
    go_wp2
    go_end0
    exact ⟨rfl, Hh.out.used _, Fr.setCell _ Hh.out.1 (bld_ty Hh.out) (by simp [TB])⟩
  · have h0 := h.cell0
    have e4 := Lib.run_neq_ptr_same (P := Tryd.prog) w ⟨b, 0, none⟩ Tryd.underlying55 hj
    have Hh := Lib.hid h
    clear h
    go_enter Tryd.func47, Tryd.ntmps47
    go_wp2
    go_end0
    exact ⟨rfl, Hh.out, Fr.refl⟩
theorem bytes_len (l : List UInt8) : (Lib.byteCells l).length = l.length := by unfold Lib.byteCells; rw [List.length_map]
theorem bytes_app (a b : List UInt8) : Lib.byteCells (a ++ b) = Lib.byteCells a ++ Lib.byteCells b := by unfold Lib.byteCells; rw [List.map_append]
/-- What a builder holds has grown. -/
theorem bld_put {w V w' : World} {B b : Nat} {bs bs' : List Value} {v v' : Value} {n : Nat} (hV : Below w.heap.size w V) (hB : B ≤ b) (hb : w.heap[b]? = some (.cells #[.pointer (some ⟨b, 0, none⟩), v] 58 (0, 0))) (hown : V.ownsRow B 5 1 v bs.length bs) (hg : V.grownBy w' v.ownBlock) (ho : w'.ownsRow B 5 1 v' n bs') (hn : n = bs'.length) :
    (Lib.BuilderAt 58 5 B b (.pointer (some ⟨b, 0, none⟩)) bs' (w'.setCell ⟨b, 1, none⟩ v') ∧ Fr B TB w (w'.setCell ⟨b, 1, none⟩ v')) ∧ w'.cell? ⟨b, 1, none⟩ = some v ∧ w'.frozen? ⟨b, 1, none⟩ = false ∧ b < w'.heap.size ∧ ∃ q m k, v' = .slice q m k := by
  subst hn
  have hbl : b < w.heap.size := (Array.getElem?_eq_some_iff.1 hb).1
  have hb2 : V.heap[b]? = some (.cells #[.pointer (some ⟨b, 0, none⟩), v] 58 (0, 0)) := (hV.block b hbl).trans hb
  have tyb : TyAt V b 58 := ⟨_, hb2⟩
  have hne : v.ownBlock ≠ some b := fun e => (own_ty hown e).ne tyb (by decide) rfl
  have hb3 : w'.heap[b]? = some (.cells #[.pointer (some ⟨b, 0, none⟩), v] 58 (0, 0)) := (hg.block b (by have := hV.size; omega) (fun e => hne e.symm)).trans hb2
  have hF : Fr B TB w w' := (Fr.of_below hV).trans (Fr.of_only ((Only.refl v.ownBlock.toList V).grown hg fun k hk => .inl (by rw [hk]; simp)) fun z hz => ⟨(own_lt hown (by simpa using hz)).1, 5, by simp [TB], own_ty hown (by simpa using hz)⟩)
  refine ⟨⟨Lib.BuilderAt.put hB hb3 ho (by decide), hF.trans (Fr.setCell v' hB ⟨_, hb3⟩ (by simp [TB]))⟩, by rw [Lib.cell_of_heap hb3]; rfl, Lib.frozen_of_heap hb3 1, (Array.getElem?_eq_some_iff.1 hb3).1, ?_⟩
  rcases ho.2 with ⟨e, _⟩ | ⟨g, cap, cur, e, _⟩
  · exact ⟨_, _, _, e⟩
  · exact ⟨_, _, _, e⟩
set_option maxRecDepth 100000 in
set_option maxHeartbeats 4000000 in
theorem bbyte_any (B b : Nat) (l : List UInt8) (c : UInt8) (k : Int) (hk : k = (c.toNat : Int)) (w : World) (h : IsBld w B b l) (hl : l.length ≤ 1000000000) (hBw : B ≤ w.heap.size) :
    Calls Tryd.prog 33 #[.pointer (some ⟨b, 0, none⟩), .int .u8 k] w fun e w' => e = .returned .nilIface ∧ IsBld w' B b (l ++ [c]) ∧ Fr B TB w w' := by
  have HC := Lib.hid (bcheck_any B b (Lib.byteCells l) w h)
  have HK := Lib.hid (fun w1 (h1 : Lib.BuilderAt 58 5 B b (.pointer (some ⟨b, 0, none⟩)) (Lib.byteCells l) w1) => h1)
  have Hk := Lib.hid hk
  obtain ⟨i0, hi, hz0, hz1, hz2⟩ := info_parts Tryd.info5
  have Hi := Lib.hid hi
  have Hz0 := Lib.hid hz0
  have Hz1 := Lib.hid hz1
  have Hz2 := Lib.hid hz2
  clear hi hz0 hz1 hz2
  clear h hk
  go_enter Tryd.func33, Tryd.ntmps33
  go_wp2_with (first
    | (go_at_call 47; (with_reducible refine HC.out.mono ?_); rintro e w1 ⟨rfl, ⟨hB, v, hb, hown, hne⟩, hF⟩; have HF := Lib.hid hF; have HOw := Lib.hid (show w1.ownsRow B 5 1 v l.length (Lib.byteCells l) by rw [← bytes_len l]; exact hown); have Hb := Lib.hid hb; have hbl1 : b < w1.heap.size := (Array.getElem?_eq_some_iff.1 hb).1; have c1 : w1.cell? ⟨b, 1, none⟩ = some v := (by rw [Lib.cell_of_heap hb]; rfl); have HB := Lib.hid hB; have hBw1 : B ≤ w1.heap.size := Nat.le_trans hBw hF.size; clear hF hb hown hne)
    | (at_builtin; refine wpList_append_own _ rfl (.tmp 11) (.tmp 13) 56 rfl B 5 i0 _ 1 1 Tryd.underlying56 Hi.out Hz0.out Hz1.out Hz2.out rfl (by decide) v l.length (Lib.byteCells l) rfl (HOw.out.alloc _) ⟨w1.heap.size, 0, none⟩ 1 1 ([.int .u8 k]) rfl rfl (news_at _ _ _) (by simp [Value.oneCell']) (by unfold maxLen; omega) (by omega) (le_alloc hBw1 _) ?_; intro v1 w2 hown1 hgrow1 _; (obtain ⟨k1, k2, k3, k4, ⟨q1, q2, q3, rfl⟩⟩ := bld_put (bs := Lib.byteCells l) ((Below.refl _ _).alloc (Nat.le_refl _) _) HB.out Hb.out (by rw [bytes_len]; exact HOw.out.alloc _) hgrow1 hown1 (by rw [List.length_append, bytes_len]; rfl)); have K1 := Lib.hid k1; clear hown1 hgrow1 k1))
  refine bodyPost_ret (v := .nilIface) (by simp [results, Tryd.results33, go_sem]) rfl ⟨rfl, .inr ?_, HF.out.trans K1.out.2⟩
  rw [bytes_app]
  have h9 := K1.out.1
  rw [Hk.out] at h9
  exact h9
set_option maxRecDepth 100000 in
set_option maxHeartbeats 4000000 in
theorem bstr_any (B b : Nat) (l : List UInt8) (x : ByteArray) (w : World) (h : IsBld w B b l) (hl : l.length + x.size ≤ 1000000000) (hBw : B ≤ w.heap.size) :
    Calls Tryd.prog 31 #[.pointer (some ⟨b, 0, none⟩), .string x] w fun e w' => e = .returned (.tuple #[.int .i64 x.size, .nilIface]) ∧ IsBld w' B b (l ++ x.toList) ∧ Fr B TB w w' := by
  have HC := Lib.hid (bcheck_any B b (Lib.byteCells l) w h)
  have hx : Lib.strCells x = Lib.byteCells x.toList := by rw [ByteArray.toList_eq]; rfl
  obtain ⟨i0, hi, hz0, hz1, hz2⟩ := info_parts Tryd.info5
  have Hi := Lib.hid hi
  have Hz0 := Lib.hid hz0
  have Hz1 := Lib.hid hz1
  have Hz2 := Lib.hid hz2
  clear hi hz0 hz1 hz2
  clear h
  go_enter Tryd.func31, Tryd.ntmps31
  go_wp2_with (first
    | (go_at_call 47; (with_reducible refine HC.out.mono ?_); rintro e w1 ⟨rfl, ⟨hB, v, hb, hown, hne⟩, hF⟩; have HF := Lib.hid hF; have HOw := Lib.hid (show w1.ownsRow B 5 1 v l.length (Lib.byteCells l) by rw [← bytes_len l]; exact hown); have Hb := Lib.hid hb; have hbl1 : b < w1.heap.size := (Array.getElem?_eq_some_iff.1 hb).1; have c1 : w1.cell? ⟨b, 1, none⟩ = some v := (by rw [Lib.cell_of_heap hb]; rfl); have HB := Lib.hid hB; have hBw1 : B ≤ w1.heap.size := Nat.le_trans hBw hF.size; clear hF hb hown hne)
    | (at_builtin; refine Lib.wpList_append_own_string _ rfl (.tmp 12) (.tmp 13) 56 9 rfl B 5 i0 Tryd.underlying56 Tryd.underlying9 Hi.out Hz0.out Hz1.out Hz2.out v l.length (Lib.byteCells l) rfl HOw.out x rfl (by unfold maxLen; omega) (by omega) hBw1 ?_; intro v1 w2 hown1 hgrow1 _; (obtain ⟨k1, k2, k3, k4, ⟨q1, q2, q3, rfl⟩⟩ := bld_put (bs := Lib.byteCells l) (Below.refl _ _) HB.out Hb.out (by rw [bytes_len]; exact HOw.out) hgrow1 hown1 (by rw [List.length_append, bytes_len, Lib.strCells_length])); have K1 := Lib.hid k1; clear hown1 hgrow1 k1))
  go_ret2
  refine ⟨rfl, .inr ?_, HF.out.trans K1.out.2⟩
  rw [bytes_app, ← hx]
  exact K1.out.1
theorem bstring_any (B b : Nat) (l : List UInt8) (w : World) (h : IsBld w B b l) (hBw : B ≤ w.heap.size) :
    Calls Tryd.prog 34 #[.pointer (some ⟨b, 0, none⟩)] w fun e w' => e = .returned (.string (toB l)) ∧ Below B w w' :=
  Any.Builder_String_any builderL builderX B b l w h hBw
theorem bld_new (w : World) : IsBld (w.alloc (.cells #[.pointer none, .slice none 0 0] 58)) w.heap.size w.heap.size [] := Lib.fresh_isBuilder _ _ w
theorem IsBld.below {w w' : World} {B b : Nat} {l : List UInt8} (h : IsBld w B b l) (hb : Below w.heap.size w w') : IsBld w' B b l := by
  have f : ∀ p, Lib.BuilderAt 58 5 B b p (Lib.byteCells l) w → Lib.BuilderAt 58 5 B b p (Lib.byteCells l) w' := fun p ⟨h1, v, h2, h3, h4⟩ => ⟨h1, v, (hb.block b (Array.getElem?_eq_some_iff.1 h2).1).trans h2, own_kept h3 hb, h4⟩
  exact h.elim (fun x => .inl (f _ x)) (fun x => .inr (f _ x))
theorem IsBld.lt {w : World} {B b : Nat} {l : List UInt8} (h : IsBld w B b l) : b < w.heap.size ∧ B ≤ b := by
  rcases h with h | h
  · exact ⟨h.lt, h.1⟩
  · exact ⟨h.lt, h.1⟩
end Go.Proofs.YtaehcnoendieaaaDoor
