/-
  A provider of right groups, and what is asked of it: made, ask; things that are to be done, as they came in.
-/
import Derived.Test.YtcfdejlbchdciaaDoorClKn
import Derived.Test.YtcfdejlbchdciaaDoorGLaid
import Derived.Test.YtcfdejlbchdciaaDoorMA
namespace Go.Proofs.YtcfdejlbchdciaaDoor
open Go.ChangeShapes Go.WideShapes Go.ChangeAt Go.RowKit
set_option linter.unusedVariables false
set_option linter.unusedSimpArgs false

structure Opn where
  k : Int
  nm : ByteArray
  gp : ByteArray
  n : Int
  is : Bool
def oprow (o : Opn) : List Value := [.int .i64 o.k, .string o.nm, .string o.gp, .int .i64 o.n, .bool o.is]
abbrev OpL := RowsAt oprow 5
theorem oprow_len (o : Opn) : (oprow o).length = 5 := rfl
theorem oprow_cells {w : World} {b o : Nat} {x : Opn} (h : ∀ r, r < 5 → w.cell? ⟨b, o + r, none⟩ = (oprow x)[r]?) :
    w.cell? ⟨b, o, none⟩ = some (.int .i64 x.k) ∧ w.cell? ⟨b, o + 1, none⟩ = some (.string x.nm) ∧ w.cell? ⟨b, o + 2, none⟩ = some (.string x.gp) ∧ w.cell? ⟨b, o + 3, none⟩ = some (.int .i64 x.n) ∧ w.cell? ⟨b, o + 4, none⟩ = some (.bool x.is) :=
  ⟨h 0 (by decide), h 1 (by decide), h 2 (by decide), h 3 (by decide), h 4 (by decide)⟩
def OpIn (w : World) (o : Opn) : Prop := -9223372036854775808 ≤ o.n ∧ o.n ≤ 9223372036854775807
theorem Tryd.cells30 : Tryd.prog.cellsOf 30 = 5 := by kernel_rfl
theorem cells_bool : Tryd.prog.cellsOf 4 = 1 := by kernel_rfl
set_option maxRecDepth 100000 in
theorem op_open {H : Type} {enc : TypeId × Value → H} {W : World} {fuel : Nat} {cs : List Value} {y : DataW H × List MemPlace} (hl : cs.length = 5)
    (h : DataW.trod enc Tryd.prog W 0 (fun _ => true) true fuel 30 cs = some y) : ∃ x : Opn, cs = oprow x ∧ OpIn W x := by
  obtain ⟨xs, n, _, hx, _, hlen, hg⟩ := DataW.trod_struct Tryd.underlying30 h
  match cs, hl with
  | [c0, c1, c2, c3, c4], _ =>
    match xs, hlen with
    | [y0, y1, y2, y3, y4], _ =>
      have g0 := hg 0 _ rfl
      have g1 := hg 1 _ rfl
      have g2 := hg 2 _ rfl
      have g3 := hg 3 _ rfl
      have g4 := hg 4 _ rfl
      obtain ⟨n0, q0, _⟩ := DataW.trod_int Tryd.underlying3 g0
      obtain ⟨s1, q1, _⟩ := DataW.trod_string Tryd.underlying9 g1
      obtain ⟨s2, q2, _⟩ := DataW.trod_string Tryd.underlying9 g2
      obtain ⟨n3, q3, _, w3⟩ := DataW.trod_int Tryd.underlying3 g3
      obtain ⟨b4, q4, _⟩ := DataW.trod_bool Tryd.underlying4 g4
      simp [cells_int, cells_bool, Tryd.cells9] at q0 q1 q2 q3 q4
      refine ⟨⟨n0, s1, s2, n3, b4⟩, by rw [q0, q1, q2, q3, q4]; rfl, ?_⟩
      simpa [OpIn, Lit.wf, IntKind.min, IntKind.max, IntKind.signed, IntKind.bits] using w3
set_option maxRecDepth 100000 in
theorem open_ops {H : Type} {enc : TypeId × Value → H} {W : World} {base : Nat} {v : Value} {d : DataW H} {p : List MemPlace}
    (hv : Value.okWide Tryd.prog W .any base 23 v) (h : DataW.Trod enc Tryd.prog W 0 (fun _ => true) true 23 v d p) :
    ∃ (a : Option Addr) (l : List Opn) (k : Nat), v = .slice a l.length k ∧ NilOk a l.length k ∧ OpL W a l ∧ l.length ≤ maxLen ∧ l.length ≤ k ∧ ∀ x ∈ l, OpIn W x :=
  open_list_in (In := OpIn) Tryd.underlying23 Tryd.cells30 (by decide) (fun cs fuel y hl hy => op_open hl hy) hv h

set_option maxRecDepth 100000 in
set_option maxHeartbeats 4000000 in
theorem ask_any (w0 : World) (b m : Nat) (s : CS) (F : List Nat) (o : Opn) (w : World) (h : Prov w0 b s m F w) (hm : m ≤ 100) (hT : Tab10 w0) (ho : OpIn w o) :
    Calls Tryd.prog 8 #[.pointer (some ⟨b, 0, none⟩), .agg #[.int .i64 o.k, .string o.nm, .string o.gp, .int .i64 o.n, .bool o.is]] w fun e w' => e = .returned (.tuple #[]) ∧ Prov w0 b (s.ask o.k o.nm o.gp o.n o.is) (m + 1) F w' ∧ Kept F w w' := by
  obtain ⟨k, nm, gp, n, is⟩ := o
  have hb1 : Below w.heap.size w (w.alloc (.cells #[.int .i64 k, .string nm, .string gp, .int .i64 n, .bool is] 30)) := (Below.refl _ _).alloc (Nat.le_refl _) _
  have HP := Lib.hid (h.below hb1)
  have HK := Lib.hid (Kept.below h hb1)
  have H1 := Lib.hid (pv_inc w0 b m s F _ HP.out hm hT gp n ho.1 ho.2)
  have H2 := Lib.hid (pv_del w0 b m s F _ HP.out hm nm)
  have H3 := Lib.hid (pv_dec w0 b m s F _ HP.out hm gp n ho.1 ho.2)
  have H4 := Lib.hid (pv_brk w0 b m s F _ HP.out hm gp is)
  have H5 := Lib.hid (pv_fail w0 b m s F _ HP.out hm nm)
  have H6 := Lib.hid (pv_tick w0 b m s F _ HP.out hm)
  have HT := Lib.hid (fun (s' : CS) (w' : World) (h1 : Prov w0 b s' (m + 1) F w') (h2 : Kept F (w.alloc (.cells #[.int .i64 k, .string nm, .string gp, .int .i64 n, .bool is] 30)) w') (e : s' = s.ask k nm gp n is) => show Prov w0 b (s.ask k nm gp n is) (m + 1) F w' ∧ Kept F w w' from ⟨e ▸ h1, HK.out.trans h2⟩)
  clear h hT ho hb1 HP
  have HA : ∀ s', (if k = 0 then (s.inc gp n).1 else if k = 1 then (s.del nm).1 else if k = 2 then (s.dec gp n).1 else if k = 3 then (s.brk gp is).1 else if k = 4 then (s.fail nm).1 else s.tick) = s' → s' = s.ask k nm gp n is := fun s' h => by rw [← h]; rfl
  have HA := Lib.hid HA
  by_cases e0 : k = 0
  · have HA := Lib.hid (HA.out _ (if_pos e0))
    subst e0
    go_enter Tryd.func8, Tryd.ntmps8
    go_wp2_with (go_at_call 16; (with_reducible refine H1.out.mono ?_); rintro e w2 ⟨rfl, hP, hK⟩; have HR := Lib.hid (HT.out _ _ hP hK HA.out); clear hP hK)
    go_end0
    exact ⟨rfl, HR.out⟩
  · by_cases e1 : k = 1
    · have HA := Lib.hid (HA.out _ (by rw [if_neg e0, if_pos e1]))
      subst e1
      go_enter Tryd.func8, Tryd.ntmps8
      go_wp2_with (go_at_call 17; (with_reducible refine H2.out.mono ?_); rintro e w2 ⟨rfl, hP, hK⟩; have HR := Lib.hid (HT.out _ _ hP hK HA.out); clear hP hK)
      go_end0
      exact ⟨rfl, HR.out⟩
    · by_cases e2 : k = 2
      · have HA := Lib.hid (HA.out _ (by rw [if_neg e0, if_neg e1, if_pos e2]))
        subst e2
        go_enter Tryd.func8, Tryd.ntmps8
        go_wp2_with (go_at_call 18; (with_reducible refine H3.out.mono ?_); rintro e w2 ⟨rfl, hP, hK⟩; have HR := Lib.hid (HT.out _ _ hP hK HA.out); clear hP hK)
        go_end0
        exact ⟨rfl, HR.out⟩
      · by_cases e3 : k = 3
        · have HA := Lib.hid (HA.out _ (by rw [if_neg e0, if_neg e1, if_neg e2, if_pos e3]))
          subst e3
          go_enter Tryd.func8, Tryd.ntmps8
          go_wp2_with (go_at_call 19; (with_reducible refine H4.out.mono ?_); rintro e w2 ⟨rfl, hP, hK⟩; have HR := Lib.hid (HT.out _ _ hP hK HA.out); clear hP hK)
          go_end0
          exact ⟨rfl, HR.out⟩
        · by_cases e4 : k = 4
          · have HA := Lib.hid (HA.out _ (by rw [if_neg e0, if_neg e1, if_neg e2, if_neg e3, if_pos e4]))
            subst e4
            go_enter Tryd.func8, Tryd.ntmps8
            go_wp2_with (go_at_call 20; (with_reducible refine H5.out.mono ?_); rintro e w2 ⟨rfl, hP, hK⟩; have HR := Lib.hid (HT.out _ _ hP hK HA.out); clear hP hK)
            go_end0
            exact ⟨rfl, HR.out⟩
          · have HA := Lib.hid (HA.out _ (by rw [if_neg e0, if_neg e1, if_neg e2, if_neg e3, if_neg e4]))
            have g0 : (k == 0) = false := by simpa using e0
            have g1 : (k == 1) = false := by simpa using e1
            have g2 : (k == 2) = false := by simpa using e2
            have g3 : (k == 3) = false := by simpa using e3
            have g4 : (k == 4) = false := by simpa using e4
            clear e0 e1 e2 e3 e4
            go_enter Tryd.func8, Tryd.ntmps8
            go_wp2_with (go_at_call 13; (with_reducible refine H6.out.mono ?_); rintro e w2 ⟨rfl, hP, hK⟩; have HR := Lib.hid (HT.out _ _ hP hK HA.out); clear hP hK)
            go_end0
            exact ⟨rfl, HR.out⟩
end Go.Proofs.YtcfdejlbchdciaaDoor
