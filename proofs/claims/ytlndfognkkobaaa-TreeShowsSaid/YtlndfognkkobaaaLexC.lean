/-
  The scanner: escape, inside, begin.
-/
import Derived.Test.YtlndfognkkobaaaLexB
import Derived.Test.YtlndfognkkobaaaLexE
import Derived.Lib.AppendStr
import Derived.Laws.IdiomStrings
namespace Go.Proofs.Ytlndfognkkobaaa
open Go.RowKit
set_option linter.unusedVariables false
set_option linter.unusedSimpArgs false

theorem Try.info5 : (Try.prog.info? 5).map (fun i => (i.zero, i.size, i.bytes)) = some (some (.int .u8 0), 1, 1) := by kernel_rfl
theorem u8c_map (b : List UInt8) : b.map (fun x => Value.int .u8 (x.toNat : Int)) = b.flatMap u8c := by
  induction b with
  | nil => rfl
  | cons x t ih => rw [List.map_cons, List.flatMap_cons, ih]; rfl
/-- A text's content, grown: in memory. -/
theorem ST.grown {w V w' : World} {base b : Nat} {src : ByteArray} {s : SC} {tv cv v' : Value} {L : List UInt8} {n : Nat} {xs : List Value} (h : ST w base b src s tv cv) (hV : Below w.heap.size w V) (hg : V.grownBy w' cv.ownBlock) (ho : w'.ownsRow base 5 1 v' n xs) (hn : n = L.length) (hx : xs = L.flatMap u8c) :
    ST (w'.setCell ⟨b, 8, none⟩ v') base b src { s with ct := L } tv v' ∧ Fr base TS w (w'.setCell ⟨b, 8, none⟩ v') ∧ ST w' base b src { s with ct := s.ct } tv cv = ST w' base b src s tv cv := by
  have h2 := h.below hV
  have ho1 : Only cv.ownBlock.toList V w' := (Only.refl _ V).grown hg fun k hk => .inl (by rw [hk]; simp)
  have hS : ∀ z ∈ cv.ownBlock.toList, TyAt V z 5 := fun z hz => own_ty h2.ct (by simpa using hz)
  subst hn
  subst hx
  have h3 := h2.newCt ho1 hS ho
  have hb : b ∉ cv.ownBlock.toList := fun hm => (blk_ty h2.row).ne (hS b hm) (by decide) rfl
  refine ⟨h3, ((Fr.of_below hV).trans (Fr.of_only ho1 fun z hz => ⟨(own_lt h2.ct (by simpa using hz)).1, 5, by simp [TS], hS z hz⟩)).trans (Fr.setCell v' h.hb (blk_ty (h2.row.only ho1 hb)) (by simp [TS])), rfl⟩
theorem ST.grown_row {w V w' : World} {base b : Nat} {src : ByteArray} {s : SC} {tv cv : Value} (h : ST w base b src s tv cv) (hV : Below w.heap.size w V) (hg : V.grownBy w' cv.ownBlock) : Blk w' b 67 (srow src s tv cv) := by
  have h2 := h.below hV
  have ho1 : Only cv.ownBlock.toList V w' := (Only.refl _ V).grown hg fun k hk => .inl (by rw [hk]; simp)
  have hS : ∀ z ∈ cv.ownBlock.toList, TyAt V z 5 := fun z hz => own_ty h2.ct (by simpa using hz)
  exact h2.row.only ho1 fun hm => (blk_ty h2.row).ne (hS b hm) (by decide) rfl
set_option maxRecDepth 100000 in
set_option maxHeartbeats 4000000 in
theorem sesc_any (base b : Nat) (src : ByteArray) (s : SC) (tv cv : Value) (i r : Int) (w : World) (h : ST w base b src s tv cv) (hn : s.ct.length ≤ 1000000) (hi : 0 ≤ i ∧ i ≤ 1000000) :
    Calls Try.prog 59 #[.pointer (some ⟨b, 0, none⟩), .int .i64 i, .int .i32 r] w fun e w' => e = .returned (.tuple #[.int .i64 (s.esc i r).2.1, .int .i64 (s.esc i r).2.2]) ∧ (∃ cv', ST w' base b src (s.esc i r).1 tv cv') ∧ Fr base TS w w' := by
  have c8 := h.row.cell 8
  dsimp only [srow, List.getElem?_cons_zero, List.getElem?_cons_succ] at c8
  have hbl := h.row.lt
  have Hh := Lib.hid h
  have hbw : base ≤ w.heap.size := by have := h.hb; omega
  obtain ⟨L, hL⟩ : ∃ L, s.ct = L := ⟨_, rfl⟩
  have hOw : w.ownsRow base 5 1 cv L.length (L.flatMap u8c) := by rw [← hL]; exact h.ct
  have HOw := Lib.hid hOw
  have HL := Lib.hid hL
  rw [hL] at hn
  have hw1 : IntKind.i64.wrap (i - 1) = i - 1 := cwrap_in (by omega) (by omega)
  have key : ∀ (c : UInt8) (w' : World) (v' : Value), w'.ownsRow base 5 1 v' (L.length + 1) (L.flatMap u8c ++ [.int .u8 (c.toNat : Int)]) → (w.alloc (.cells #[.int .u8 (c.toNat : Int)] 5)).grownBy w' cv.ownBlock →
      (ST ((w'.setCell ⟨b, 8, none⟩ v').setCell ⟨b, 2, none⟩ (.int .i64 2)) base b src { s with ct := L ++ [c], md := 2 } tv v' ∧ Fr base TS w ((w'.setCell ⟨b, 8, none⟩ v').setCell ⟨b, 2, none⟩ (.int .i64 2))) ∧ w'.cell? ⟨b, 8, none⟩ = some cv ∧ w'.frozen? ⟨b, 8, none⟩ = false ∧ w'.cell? ⟨b, 2, none⟩ = some (.int .i64 s.md) ∧ w'.frozen? ⟨b, 2, none⟩ = false ∧ b < w'.heap.size ∧ (∃ q n k, v' = .slice q n k) := fun c w' v' hO hG => by
    have hV : Below w.heap.size w (w.alloc (.cells #[.int .u8 (c.toNat : Int)] 5)) := (Below.refl _ _).alloc (Nat.le_refl _) _
    obtain ⟨g1, g2, _⟩ := Hh.out.grown (L := L ++ [c]) hV hG hO (by rw [List.length_append]; rfl) (by rw [List.flatMap_append]; rfl)
    have g3 := Hh.out.grown_row hV hG
    refine ⟨⟨g1.rset (s' := { s with ct := L ++ [c], md := 2 }) 2 _ rfl rfl rfl, g2.trans (g1.fr 2 _)⟩, g3.cell 8, g3.frozen 8, g3.cell 2, g3.frozen 2, g3.lt, ?_⟩
    rcases hO.2 with ⟨e, _⟩ | ⟨g, cap, cur, e, _⟩
    · exact ⟨_, _, _, e⟩
    · exact ⟨_, _, _, e⟩
  have Key := Lib.hid key
  obtain ⟨i0, hi, hz0, hz1, hz2⟩ := info_parts Try.info5
  have Hi := Lib.hid hi
  have Hz0 := Lib.hid hz0
  have Hz1 := Lib.hid hz1
  have Hz2 := Lib.hid hz2
  clear hi hz0 hz1 hz2
  clear h hL hOw key
  by_cases r1 : r = 110
  · subst r1
    have e : s.esc i 110 = ({ s with ct := L ++ [10], md := 2 }, 0, 0) := by unfold SC.esc; rw [if_pos rfl, HL.out]
    rw [e]
    clear e
    go_enter Try.func59, Try.ntmps59
    go_wp2_with (at_builtin; refine wpList_append_own _ rfl (.tmp 17) (.tmp 18) 46 rfl base 5 i0 _ 1 1 Try.underlying46 Hi.out Hz0.out Hz1.out Hz2.out rfl (by decide) cv L.length (L.flatMap u8c) rfl (HOw.out.alloc _) ⟨w.heap.size, 0, none⟩ 1 1 ([.int .u8 10]) rfl rfl (news_at _ _ _) (by simp [Value.oneCell']) (by unfold maxLen; omega) (by omega) (le_alloc hbw _) ?_; intro v1 w1 hown1 hgrow1 _; (obtain ⟨k1, k2, k3, k4, k5, k6, ⟨q1, q2, q3, rfl⟩⟩ := Key.out 10 w1 v1 hown1 hgrow1); have K1 := Lib.hid k1; clear hown1 hgrow1 k1)
    go_ret2
    exact ⟨rfl, ⟨_, K1.out.1⟩, K1.out.2⟩
  · have n1 : (r == 110) = false := by simpa using r1
    by_cases r2 : r = 34
    · subst r2
      have e : s.esc i 34 = ({ s with ct := L ++ [34], md := 2 }, 0, 0) := by unfold SC.esc; rw [HL.out]; rfl
      rw [e]
      clear e
      go_enter Try.func59, Try.ntmps59
      go_wp2_with (at_builtin; refine wpList_append_own _ rfl (.tmp 29) (.tmp 32) 46 rfl base 5 i0 _ 1 1 Try.underlying46 Hi.out Hz0.out Hz1.out Hz2.out rfl (by decide) cv L.length (L.flatMap u8c) rfl (HOw.out.alloc _) ⟨w.heap.size, 0, none⟩ 1 1 ([.int .u8 34]) rfl rfl (news_at _ _ _) (by simp [Value.oneCell']) (by unfold maxLen; omega) (by omega) (le_alloc hbw _) ?_; intro v1 w1 hown1 hgrow1 _; (obtain ⟨k1, k2, k3, k4, k5, k6, ⟨q1, q2, q3, rfl⟩⟩ := Key.out 34 w1 v1 hown1 hgrow1); have K1 := Lib.hid k1; clear hown1 hgrow1 k1)
      go_ret2
      exact ⟨rfl, ⟨_, K1.out.1⟩, K1.out.2⟩
    · have n2 : (r == 34) = false := by simpa using r2
      by_cases r3 : r = 92
      · subst r3
        have e : s.esc i 92 = ({ s with ct := L ++ [92], md := 2 }, 0, 0) := by unfold SC.esc; rw [HL.out]; rfl
        rw [e]
        clear e
        go_enter Try.func59, Try.ntmps59
        go_wp2_with (at_builtin; refine wpList_append_own _ rfl (.tmp 29) (.tmp 32) 46 rfl base 5 i0 _ 1 1 Try.underlying46 Hi.out Hz0.out Hz1.out Hz2.out rfl (by decide) cv L.length (L.flatMap u8c) rfl (HOw.out.alloc _) ⟨w.heap.size, 0, none⟩ 1 1 ([.int .u8 92]) rfl rfl (news_at _ _ _) (by simp [Value.oneCell']) (by unfold maxLen; omega) (by omega) (le_alloc hbw _) ?_; intro v1 w1 hown1 hgrow1 _; (obtain ⟨k1, k2, k3, k4, k5, k6, ⟨q1, q2, q3, rfl⟩⟩ := Key.out 92 w1 v1 hown1 hgrow1); have K1 := Lib.hid k1; clear hown1 hgrow1 k1)
        go_ret2
        exact ⟨rfl, ⟨_, K1.out.1⟩, K1.out.2⟩
      · have n3 : (r == 92) = false := by simpa using r3
        have e : s.esc i r = (s, 2, i - 1) := by unfold SC.esc; rw [if_neg r1, if_neg r2, if_neg r3]
        rw [e]
        clear e Key
        go_enter Try.func59, Try.ntmps59
        go_wp2
        go_ret2
        exact ⟨rfl, ⟨_, Hh.out⟩, Fr.refl⟩
theorem oddR_cases (r : Int) : (decide (r < 32) = true ∧ (r != 9) = true ∧ (r != 10) = true ∧ oddR r = true) ∨ (decide (r < 32) = true ∧ (r != 9) = false ∧ (r == 127) = false ∧ oddR r = false) ∨ (decide (r < 32) = true ∧ (r != 9) = true ∧ (r != 10) = false ∧ (r == 127) = false ∧ oddR r = false) ∨ (decide (r < 32) = false ∧ (r == 127) = true ∧ oddR r = true) ∨ (decide (r < 32) = false ∧ (r == 127) = false ∧ oddR r = false) := by
  unfold oddR
  by_cases h1 : r < 32 <;> by_cases h2 : r = 9 <;> by_cases h3 : r = 10 <;> by_cases h4 : r = 127 <;> simp [h1, h2, h3, h4] <;> omega
set_option maxRecDepth 100000 in
set_option maxHeartbeats 4000000 in
theorem sins_any (base b : Nat) (src : ByteArray) (s : SC) (tv cv : Value) (i : Nat) (r : Nat) (bb : List UInt8) (w : World) (h : ST w base b src s tv cv) (hn : s.ct.length ≤ 1000000) (hk : s.tk.length ≤ 1000000) (hr : Rn bb r) (hd : (Utf8.decode src i).2 = bb.length) (hx : (src.extract i (i + bb.length)).toList = bb) (hb4 : bb.length ≤ 4) :
    Calls Try.prog 60 #[.pointer (some ⟨b, 0, none⟩), .int .i64 i, .int .i32 r] w fun e w' => e = .returned (.tuple #[.int .i64 (s.inside src i r).2.1, .int .i64 (s.inside src i r).2.2]) ∧ (∃ tv' cv', ST w' base b src (s.inside src i r).1 tv' cv') ∧ Fr base TS w w' := by
  have c8 := h.row.cell 8
  have c2 := h.row.cell 2
  have f2 := h.row.frozen 2
  dsimp only [srow, List.getElem?_cons_zero, List.getElem?_cons_succ] at c8 c2
  have hbl := h.row.lt
  have Hh := Lib.hid h
  have hbw : base ≤ w.heap.size := by have := h.hb; omega
  obtain ⟨L, hL⟩ : ∃ L, s.ct = L := ⟨_, rfl⟩
  have HL := Lib.hid hL
  by_cases r1 : (r : Int) = 34
  · have e : s.inside src i r = (s.add 4 (toB L), 0, 0) := by unfold SC.inside; rw [if_pos r1, hL]
    rw [e, r1]
    have HA := Lib.hid (sadd_any base b src s tv cv 4 (toB L) w h hk)
    obtain ⟨a, k, ev, hc⟩ := own_rows u8c_len h.ct (by decide)
    have hcv : (convert 46 9 cv).run Try.prog w = .ok (.string (toB L)) w := by
      rw [ev, hL]
      cases hz : L with
      | nil =>
        cases a with
        | none => exact run_convert_bytes_nil w 46 5 Try.underlying46 Try.underlying5 0 k 9 Try.underlying9
        | some q => exact run_convert_bytes_back w 46 9 5 q k [] Try.underlying46 Try.underlying5 Try.underlying9 (fun j hj => by simp at hj)
      | cons x t =>
        obtain ⟨g, e1, _, _, h4⟩ := hc (by rw [hL, hz]; simp)
        rw [e1]
        exact run_convert_bytes_back w 46 9 5 ⟨g, 0, none⟩ k (x :: t) Try.underlying46 Try.underlying5 Try.underlying9 (fun j hj => by
          have h9 := h4 j ((x :: t)[j]) (by rw [hL, hz]; exact List.getElem?_eq_getElem hj) 0 (by decide)
          rw [Go.WideShapes.add_plain, Nat.zero_add]
          simpa [u8c] using h9)
    clear h hc ev hL e r1
    go_enter Try.func60, Try.ntmps60
    go_wp2_with (go_at_call 67; (with_reducible refine HA.out.mono ?_); rintro e w6 ⟨rfl, hT, hF⟩; have HT := Lib.hid hT; have HF := Lib.hid hF; clear hT hF)
    go_ret2
    exact ⟨rfl, HT.out.imp fun tv' h => ⟨cv, h⟩, HF.out⟩
  · have n1 : ((r : Int) == 34) = false := by simpa using r1
    by_cases r2 : (r : Int) = 92
    · have e : s.inside src i r = ({ s with md := 3 }, 0, 0) := by unfold SC.inside; rw [if_neg r1, if_pos r2]
      rw [e, r2]
      have n1' : ((92 : Int) == 34) = false := rfl
      clear h hL e r1 r2 n1
      go_enter Try.func60, Try.ntmps60
      go_wp2
      go_ret2
      exact ⟨rfl, ⟨tv, cv, Hh.out.rset (s' := { s with md := 3 }) 2 (.int .i64 3) rfl rfl rfl⟩, Hh.out.fr 2 _⟩
    · have n2 : ((r : Int) == 92) = false := by simpa using r2
      cases ho : oddR (r : Int) with
      | true =>
        have e : s.inside src i r = (s, 2, (i : Int)) := by unfold SC.inside; rw [if_neg r1, if_neg r2, if_pos ho]
        rw [e]
        obtain ⟨q, hq⟩ : ∃ q : Int, (r : Int) = q := ⟨_, rfl⟩
        rw [hq] at n1 n2 ho ⊢
        clear h hL e r1 r2 hq
        rcases oddR_cases q with ⟨k1, k2, k3, _⟩ | ⟨_, _, _, k4⟩ | ⟨_, _, _, _, k4⟩ | ⟨k1, k2, _⟩ | ⟨_, _, k4⟩
        · clear ho
          go_enter Try.func60, Try.ntmps60
          go_wp2
          go_ret2
          exact ⟨rfl, ⟨tv, cv, Hh.out⟩, Fr.refl⟩
        · rw [ho] at k4; cases k4
        · rw [ho] at k4; cases k4
        · clear ho
          go_enter Try.func60, Try.ntmps60
          go_wp2
          go_ret2
          exact ⟨rfl, ⟨tv, cv, Hh.out⟩, Fr.refl⟩
        · rw [ho] at k4; cases k4
      | false =>
        have e : s.inside src i r = ({ s with ct := L ++ bb }, 0, 0) := by unfold SC.inside; rw [if_neg r1, if_neg r2, if_neg (by rw [ho]; decide), hd, hx, hL]
        rw [e]
        have henc := hr.enc
        have hsz : (Utf8.encode (r : Int)).size = bb.length := by rw [henc]; rfl
        have hcs : Lib.strCells (Utf8.encode (r : Int)) = bb.flatMap u8c := by
          rw [henc]
          exact u8c_map bb
        have hOw : w.ownsRow base 5 1 cv L.length (L.flatMap u8c) := by rw [← hL]; exact h.ct
        have HOw := Lib.hid hOw
        have hlb : 0 < bb.length := List.length_pos_iff.2 hr.ne
        rw [hL] at hn
        have key : ∀ (w' : World) (v' : Value), w'.ownsRow base 5 1 v' (L.length + (Utf8.encode (r : Int)).size) (L.flatMap u8c ++ Lib.strCells (Utf8.encode (r : Int))) → w.grownBy w' cv.ownBlock →
            (ST (w'.setCell ⟨b, 8, none⟩ v') base b src { s with ct := L ++ bb } tv v' ∧ Fr base TS w (w'.setCell ⟨b, 8, none⟩ v')) ∧ w'.cell? ⟨b, 8, none⟩ = some cv ∧ w'.frozen? ⟨b, 8, none⟩ = false ∧ b < w'.heap.size ∧ (∃ q n k, v' = .slice q n k) := fun w' v' hO hG => by
          obtain ⟨g1, g2, _⟩ := Hh.out.grown (L := L ++ bb) (Below.refl _ _) hG hO (by rw [List.length_append, hsz]) (by rw [List.flatMap_append, hcs])
          have g3 := Hh.out.grown_row (Below.refl _ _) hG
          refine ⟨⟨g1, g2⟩, g3.cell 8, g3.frozen 8, g3.lt, ?_⟩
          rcases hO.2 with ⟨e, _⟩ | ⟨g, cap, cur, e, _⟩
          · exact ⟨_, _, _, e⟩
          · exact ⟨_, _, _, e⟩
        have Key := Lib.hid key
        have hs4 : (Utf8.encode (r : Int)).size ≤ 4 := by omega
        obtain ⟨i0, hi, hz0, hz1, hz2⟩ := info_parts Try.info5
        have Hi := Lib.hid hi
        have Hz0 := Lib.hid hz0
        have Hz1 := Lib.hid hz1
        have Hz2 := Lib.hid hz2
        clear hi hz0 hz1 hz2
        obtain ⟨E, hE⟩ : ∃ E, Utf8.encode (r : Int) = E := ⟨_, rfl⟩
        have hcv : ∀ V : World, (convert 21 9 (.int .i32 (r : Int))).run Try.prog V = .ok (.string E) V := fun V => by rw [← hE]; exact run_convert_int_string V _ _ _ _ (by rw [Try.underlying21]; rfl) Try.underlying9
        rw [hE] at Key hs4
        obtain ⟨q, hq⟩ : ∃ q : Int, (r : Int) = q := ⟨_, rfl⟩
        rw [hq] at n1 n2 ho hcv ⊢
        clear h hL e r1 r2 hq hE henc hsz hcs hOw key hr hd hx hk
        rcases oddR_cases q with ⟨_, _, _, k4⟩ | ⟨k1, k2, k3, _⟩ | ⟨k1, k2, k3, k5, _⟩ | ⟨_, _, k4⟩ | ⟨k1, k2, _⟩
        · rw [ho] at k4; cases k4
        · clear ho
          go_enter Try.func60, Try.ntmps60
          go_wp2_with (at_builtin; refine Lib.wpList_append_own_string _ rfl (.tmp 12) (.tmp 14) 46 9 rfl base 5 i0 Try.underlying46 Try.underlying9 Hi.out Hz0.out Hz1.out Hz2.out cv L.length (L.flatMap u8c) rfl HOw.out E rfl (by unfold maxLen; omega) (by omega) hbw ?_; intro v1 w1 hown1 hgrow1 _; (obtain ⟨k1, k2, k3, k4, ⟨q1, q2, q3, rfl⟩⟩ := Key.out w1 v1 hown1 hgrow1); have K1 := Lib.hid k1; clear hown1 hgrow1 k1)
          go_ret2
          exact ⟨rfl, ⟨tv, _, K1.out.1⟩, K1.out.2⟩
        · clear ho
          go_enter Try.func60, Try.ntmps60
          go_wp2_with (at_builtin; refine Lib.wpList_append_own_string _ rfl (.tmp 12) (.tmp 14) 46 9 rfl base 5 i0 Try.underlying46 Try.underlying9 Hi.out Hz0.out Hz1.out Hz2.out cv L.length (L.flatMap u8c) rfl HOw.out E rfl (by unfold maxLen; omega) (by omega) hbw ?_; intro v1 w1 hown1 hgrow1 _; (obtain ⟨k1, k2, k3, k4, ⟨q1, q2, q3, rfl⟩⟩ := Key.out w1 v1 hown1 hgrow1); have K1 := Lib.hid k1; clear hown1 hgrow1 k1)
          go_ret2
          exact ⟨rfl, ⟨tv, _, K1.out.1⟩, K1.out.2⟩
        · rw [ho] at k4; cases k4
        · clear ho
          go_enter Try.func60, Try.ntmps60
          go_wp2_with (at_builtin; refine Lib.wpList_append_own_string _ rfl (.tmp 12) (.tmp 14) 46 9 rfl base 5 i0 Try.underlying46 Try.underlying9 Hi.out Hz0.out Hz1.out Hz2.out cv L.length (L.flatMap u8c) rfl HOw.out E rfl (by unfold maxLen; omega) (by omega) hbw ?_; intro v1 w1 hown1 hgrow1 _; (obtain ⟨k1, k2, k3, k4, ⟨q1, q2, q3, rfl⟩⟩ := Key.out w1 v1 hown1 hgrow1); have K1 := Lib.hid k1; clear hown1 hgrow1 k1)
          go_ret2
          exact ⟨rfl, ⟨tv, _, K1.out.1⟩, K1.out.2⟩
end Go.Proofs.Ytlndfognkkobaaa
