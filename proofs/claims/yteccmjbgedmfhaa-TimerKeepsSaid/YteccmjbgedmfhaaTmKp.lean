/-
  TimerKeeps: what is noted again and again stays noted since the first time; what is left out once begins anew.
-/
import Derived.Test.YteccmjbgedmfhaaTmKn
import Derived.Test.YteccmjbgedmfhaaTmOp
namespace Go.Proofs.Yteccmjbgedmfhaa
namespace timerKeeps
open Go.ChangeShapes Go.WideShapes Go.ChangeAt Go.RowKit
set_option linter.unusedVariables false
set_option linter.unusedSimpArgs false

abbrev Byt := { x : Int // 0 ≤ x ∧ x ≤ 255 }
def bycells (x : Byt) : List Value := [.int .u8 x.1]
abbrev BytL := RowsAt bycells 1
theorem cells_u8 : Try.prog.cellsOf 5 = 1 := by kernel_rfl
theorem byt_open {H : Type} {enc : TypeId × Value → H} {W : World} {fuel : Nat} {cs : List Value} {y : DataW H × List MemPlace} (hl : cs.length = 1)
    (h : DataW.trod enc Try.prog W 0 (fun _ => true) true fuel 5 cs = some y) : ∃ x : Byt, cs = bycells x := by
  obtain ⟨n, q, _, wz⟩ := DataW.trod_int Try.underlying5 h
  have hb : 0 ≤ n ∧ n ≤ 255 := by simpa [Lit.wf, IntKind.min, IntKind.max, IntKind.signed, IntKind.bits] using wz
  exact ⟨⟨n, hb⟩, q⟩
theorem open_bytes {H : Type} {enc : TypeId × Value → H} {W : World} {base : Nat} {v : Value} {d : DataW H} {p : List MemPlace}
    (hv : Value.okWide Try.prog W .any base 42 v) (h : DataW.Trod enc Try.prog W 0 (fun _ => true) true 42 v d p) :
    ∃ (a : Option Addr) (l : List Byt) (k : Nat), v = .slice a l.length k ∧ NilOk a l.length k ∧ BytL W a l ∧ l.length ≤ maxLen ∧ l.length ≤ k :=
  open_list Try.underlying42 cells_u8 (by decide) (fun cs fuel y hl hy => byt_open hl hy) hv h

theorem lit3 (w : World) (x y z : ByteArray) (t : TypeId) : TxtL (w.alloc (.cells #[.string x, .string y, .string z] t)) (some ⟨w.heap.size, 0, none⟩) [x, y, z] := RowsAt.new scs_len w [x, y, z] t
theorem note3 (b m : Nat) (T : ByteArray → Option Int) (n : Nat) (x y z : ByteArray) (now : Int) (w : World) (h : TB w b m T n) (hn : n ≤ 1000000) (hx : x.size ≤ maxLen) (hy : y.size ≤ maxLen) (hz : z.size ≤ maxLen) (h0 : 0 ≤ now) (h1 : now ≤ 1099511627776) :
    Calls Try.prog 9 #[.pointer (some ⟨b, 0, none⟩), .slice (some ⟨w.heap.size, 0, none⟩) 3 3, .int .i64 now] (w.alloc (.cells #[.string x, .string y, .string z] 9)) fun e w' => e = .returned (.tuple #[]) ∧ TB w' b m (noteT T [x, y, z] now) (n + 3) ∧ Only [b, m] w w' := by
  refine (note_yes b m T n (some ⟨w.heap.size, 0, none⟩) 3 [x, y, z] now _ (h.below ((Below.refl _ _).alloc (Nat.le_refl _) _)) hn (lit3 _ _ _ _ _) (by simp) (fun s hs => ?_) h0 h1).mono fun e w' ⟨he, hT, hO⟩ => ⟨he, hT, ((Only.refl _ _).alloc _).trans hO⟩
  simp at hs
  rcases hs with rfl | rfl | rfl <;> assumption

/-- What is noted of the name. -/
def soT (so : Bool) (S : Int) : Option Int := if so then some S else none

theorem mem_more {r : List ByteArray} {j : Nat} {y g : ByteArray} (h : r[j]? = some y) (hg : g ∈ r.take j ∨ y = g) : g ∈ r.take (j + 1) := by
  rw [take_at h, List.mem_append]
  rcases hg with hg | hg
  · exact .inl hg
  · exact .inr (by simp [hg])
theorem mem_less {r : List ByteArray} {j : Nat} {y g : ByteArray} (h : r[j]? = some y) (hg : ¬ g ∈ r.take j) (hy : ¬ y = g) : ¬ g ∈ r.take (j + 1) := by
  rw [take_at h, List.mem_append]
  rintro (h1 | h1)
  · exact hg h1
  · have e : g = y := by simpa using h1
    exact hy e.symm
theorem mem_ripe {T : ByteArray → Option Int} {l : List ByteArray} {g : ByteArray} {so : Bool} {S N : Int} (h : Ordered T l) (hg : T g = soT so S) : decide (g ∈ l.filter (ripeB T N (N - S))) = so := by
  cases so with
  | true =>
    refine decide_eq_true ?_
    rw [List.mem_filter, h.mem, hg]
    refine ⟨rfl, ?_⟩
    unfold ripeB ordT
    rw [hg]
    have e : ¬ (N - (soT true S).getD 0 < N - S) := by show ¬ (N - S < N - S); omega
    simp [e]
  | false =>
    refine decide_eq_false ?_
    rw [List.mem_filter, h.mem, hg]
    rintro ⟨h1, _⟩
    cases h1
theorem size_x (g : ByteArray) : (g ++ (⟨#[120]⟩ : ByteArray)).size = g.size + 1 := by
  rw [ByteArray.size_append]
  rfl
theorem ne_x (g : ByteArray) : ¬ g = g ++ (⟨#[120]⟩ : ByteArray) := fun e => by
  have h := congrArg ByteArray.size e
  rw [size_x] at h
  omega
theorem note_so {T : ByteArray → Option Int} {g : ByteArray} {S N : Int} (h : T g = soT true S) : noteT T [g, g ++ ⟨#[120]⟩, g] N g = soT true S := by
  unfold noteT
  rw [if_pos (by simp), h]
  rfl
theorem note_new {T : ByteArray → Option Int} {g : ByteArray} {S N : Int} (h : T g = soT false S) : noteT T [g, g ++ ⟨#[120]⟩, g] N g = soT true N := by
  unfold noteT
  rw [if_pos (by simp), h]
  rfl
theorem note_off (T : ByteArray → Option Int) (g : ByteArray) (S N : Int) : noteT T [g ++ ⟨#[120]⟩] N g = soT false S := by
  unfold noteT
  rw [if_neg (by simpa using ne_x g)]
  rfl
set_option maxRecDepth 100000 in
set_option maxHeartbeats 8000000 in
theorem walk (g : ByteArray) (a : Option Addr) (l : List Byt) (kc : Nat) (w : World) (hg : g.size ≤ maxLen) (hF : BytL w a l) (hl : l.length ≤ maxLen) :
    Calls Try.prog 4 #[.string g, .slice a l.length kc] w fun e w' => e = .returned (.bool true) ∧ Below w.heap.size w w' := by
  by_cases h3 : g.size ≤ 300
  · have k3 : decide ((300 : Int) < (g.size : Int)) = false := decide_eq_false (by omega)
    obtain ⟨q, hq⟩ : ∃ q, l.length = q := ⟨_, rfl⟩
    have Hq := Lib.hid hq
    have HF := Lib.hid hF
    rw [hq] at hl ⊢
    clear hq hF
    go_enter Try.func4, Try.ntmps4
    go_wp2_with (go_at_call 7; (with_reducible refine (new_any _).mono ?_); rintro e w1 ⟨b, m, rfl, hT1, hbb, hmm, hb1⟩; have HT1 := Lib.hid hT1; have HB1 := Lib.hid hb1; clear hT1 hb1)
    go_loopw [6, 7, 8, 9] (fun vn vs vo vi wr => ∃ (k : Nat) (N S : Int) (so : Bool) (T : ByteArray → Option Int), k ≤ 40 ∧ k ≤ q ∧ vi = .int .i64 k ∧ vn = .int .i64 N ∧ vs = .int .i64 S ∧ vo = .bool so ∧ T g = soT so S ∧ (0 ≤ S ∧ S ≤ N ∧ N ≤ 127 * k) ∧ TB wr b m T (3 * k) ∧ Below w.heap.size w wr) (fun _ _ _ vi _ => 40 - (intOf vi).toNat)
    case atStart => exact ⟨0, 0, 0, false, _, by omega, by omega, rfl, rfl, rfl, rfl, rfl, by omega, HT1.out, HB1.out⟩
    case round =>
      obtain ⟨k, N, S, so, T, hk, hkq, rfl, rfl, rfl, rfl, hTg, ⟨hS0, hSN, hN⟩, hT, hB⟩ := hrel
      have HT := Lib.hid hT
      have HB := Lib.hid hB
      have hbz := hB.size
      have HTg := Lib.hid hTg
      clear hT hB hTg
      by_cases hlt : k < q ∧ k < 40
      · obtain ⟨hlt, hlt2⟩ := hlt
        obtain ⟨⟨x, hx0, hx1⟩, hx⟩ := mem_at (l := l) (k := k) (by rw [Hq.out]; exact hlt)
        obtain ⟨b1, o1, rfl, hb1, hc1⟩ := HF.out (by rw [Hq.out]; omega)
        have d0 : w.cell? ⟨b1, o1 + k, none⟩ = some (.int .u8 x) := by have h := hc1 k _ hx 0 (by decide); rw [Nat.mul_one] at h; exact h
        have d1 : wr.cell? ⟨b1, o1 + k, none⟩ = some (.int .u8 x) := by rw [HB.out.cell (p := ⟨b1, o1 + k, none⟩) hb1]; exact d0
        have hbw : b1 < wr.heap.size := by omega
        clear hc1 hx d0
        have hgx : (g ++ (⟨#[120]⟩ : ByteArray)).size ≤ maxLen := by rw [size_x]; unfold maxLen; omega
        by_cases hev : x % 2 = 0
        · have k2 : (x % 2 == 0) = true := beq_iff_eq.2 hev
          have HN := Lib.hid (note3 b m T (3 * k) g (g ++ ⟨#[120]⟩) g (N + x / 2) wr HT.out (by omega) hg hgx hg (by omega) (by omega))
          cases so with
          | true =>
            have hg2 := note_so (N := N + x / 2) HTg.out
            go_wp2_with (go_at_call 9; (with_reducible refine HN.out.mono ?_); rintro e w2 ⟨rfl, hT2, hO2⟩; have HT2 := Lib.hid hT2; have HB2 := Lib.hid (hO2.below HB.out HB.out.size (by simp; omega)); clear hT2 hO2)
            clear HN k2 hev
            have HS := Lib.hid (show Calls Try.prog 14 #[.pointer (some ⟨b, 0, none⟩), .string g] w2 (fun e w' => e = .returned (.tuple #[.int .i64 (S), .bool true]) ∧ w' = w2) from by (have h := since_any b m _ _ g w2 HT2.out hg); rw [hg2] at h; exact h)
            have HR := Lib.hid (ripe_yes b m _ _ (N + x / 2) (N + x / 2 - S) w2 HT2.out (by omega) (by omega) (by omega) (by omega))
            go_wp2_with (first
              | (go_at_call 14; (with_reducible refine HS.out.mono ?_); rintro e wk ⟨rfl, rfl⟩)
              | (go_at_call 19; (with_reducible refine HR.out.mono ?_); rintro e w3 ⟨rv, r, rfl, hR3⟩; have HR3 := Lib.hid hR3; clear hR3))
            have Hin := Lib.hid (show decide (g ∈ r) = true from by
              obtain ⟨l5, ho5, _, hr5⟩ := HR3.out.from_
              rw [hr5, show (N + x / 2 - S : Int) = N + x / 2 - S by omega]
              exact mem_ripe ho5 hg2)
            have HB3 := Lib.hid (HB2.out.trans (HR3.out.below.mono HB2.out.size))
            have hrn : r.length ≤ 1000000 := (by
              obtain ⟨l5, _, hl5, hr5⟩ := HR3.out.from_
              rw [hr5]
              refine Nat.le_trans (List.length_filter_le _ _) ?_
              omega)
            obtain ⟨ra, rk, rfl, _, hrow⟩ := HR3.out.rows
            obtain ⟨p, hp⟩ : ∃ p, r.length = p := ⟨_, rfl⟩
            have Hp := Lib.hid hp
            have Hrow := Lib.hid hrow
            have HT3 := Lib.hid (HT2.out.below HR3.out.below)
            rw [hp] at hrn ⊢
            clear hp hrow HR HS HR3 HT2
            go_loopw [13, 14] (fun vm vj wv => ∃ j : Nat, j ≤ p ∧ vj = .int .i64 j ∧ vm = .bool (decide (g ∈ r.take j)) ∧ wv = w3) (fun _ vj _ => p - (intOf vj).toNat)
            case atStart => exact ⟨0, Nat.zero_le _, rfl, by simp, rfl⟩
            case round =>
              obtain ⟨j, hj, rfl, rfl, rfl⟩ := hrel
              by_cases hjp : j < p
              · obtain ⟨y, hy⟩ := mem_at (l := r) (k := j) (by rw [Hp.out]; exact hjp)
                obtain ⟨b2, o2, rfl, hb2, hc2⟩ := Hrow.out (by rw [Hp.out]; omega)
                have c2 := txt_cell (hc2 j y hy)
                rw [Nat.mul_one] at c2
                have Hy := Lib.hid hy
                clear hc2 hy
                cases hm : decide (g ∈ r.take j) with
                | true =>
                  have HM := Lib.hid (mem_more Hy.out (.inl (of_decide_eq_true hm)))
                  clear hm
                  go_wp2
                  go_roundw
                  case rel => exact ⟨j + 1, by omega, by go_num, by rw [decide_eq_true HM.out], trivial⟩
                  case measure => simp [intOf]; omega
                | false =>
                  by_cases hyg : y = g
                  · have k1 := txt_eq hyg
                    have HM := Lib.hid (mem_more Hy.out (.inr hyg))
                    clear hm hyg
                    go_wp2
                    go_roundw
                    case rel => exact ⟨j + 1, by omega, by go_num, by rw [decide_eq_true HM.out], trivial⟩
                    case measure => simp [intOf]; omega
                  · have k1 := txt_ne hyg
                    have HM := Lib.hid (mem_less Hy.out (of_decide_eq_false hm) hyg)
                    clear hm hyg
                    go_wp2
                    go_roundw
                    case rel => exact ⟨j + 1, by omega, by go_num, by rw [decide_eq_false HM.out], trivial⟩
                    case measure => simp [intOf]; omega
              · obtain rfl : j = p := by omega
                have he : decide (g ∈ r.take j) = true := by rw [List.take_of_length_le (Nat.le_of_eq Hp.out)]; exact Hin.out
                rw [he]
                clear he
                go_wp2
                go_roundw
                case rel => exact ⟨k + 1, N + x / 2, S, true, _, by omega, by omega, by go_num, by go_num, rfl, rfl, hg2, by omega, HT3.out.mono (by omega), HB3.out⟩
                case measure => simp [intOf]; omega
          | false =>
            have hg2 := note_new (S := S) (N := N + x / 2) HTg.out
            go_wp2_with (go_at_call 9; (with_reducible refine HN.out.mono ?_); rintro e w2 ⟨rfl, hT2, hO2⟩; have HT2 := Lib.hid hT2; have HB2 := Lib.hid (hO2.below HB.out HB.out.size (by simp; omega)); clear hT2 hO2)
            clear HN k2 hev
            have HS := Lib.hid (show Calls Try.prog 14 #[.pointer (some ⟨b, 0, none⟩), .string g] w2 (fun e w' => e = .returned (.tuple #[.int .i64 ((N + x / 2)), .bool true]) ∧ w' = w2) from by (have h := since_any b m _ _ g w2 HT2.out hg); rw [hg2] at h; exact h)
            have HR := Lib.hid (ripe_yes b m _ _ (N + x / 2) (0) w2 HT2.out (by omega) (by omega) (by omega) (by omega))
            go_wp2_with (first
              | (go_at_call 14; (with_reducible refine HS.out.mono ?_); rintro e wk ⟨rfl, rfl⟩)
              | (go_at_call 19; (with_reducible refine HR.out.mono ?_); rintro e w3 ⟨rv, r, rfl, hR3⟩; have HR3 := Lib.hid hR3; clear hR3))
            have Hin := Lib.hid (show decide (g ∈ r) = true from by
              obtain ⟨l5, ho5, _, hr5⟩ := HR3.out.from_
              rw [hr5, show (0 : Int) = N + x / 2 - (N + x / 2) by omega]
              exact mem_ripe ho5 hg2)
            have HB3 := Lib.hid (HB2.out.trans (HR3.out.below.mono HB2.out.size))
            have hrn : r.length ≤ 1000000 := (by
              obtain ⟨l5, _, hl5, hr5⟩ := HR3.out.from_
              rw [hr5]
              refine Nat.le_trans (List.length_filter_le _ _) ?_
              omega)
            obtain ⟨ra, rk, rfl, _, hrow⟩ := HR3.out.rows
            obtain ⟨p, hp⟩ : ∃ p, r.length = p := ⟨_, rfl⟩
            have Hp := Lib.hid hp
            have Hrow := Lib.hid hrow
            have HT3 := Lib.hid (HT2.out.below HR3.out.below)
            rw [hp] at hrn ⊢
            clear hp hrow HR HS HR3 HT2
            go_loopw [13, 14] (fun vm vj wv => ∃ j : Nat, j ≤ p ∧ vj = .int .i64 j ∧ vm = .bool (decide (g ∈ r.take j)) ∧ wv = w3) (fun _ vj _ => p - (intOf vj).toNat)
            case atStart => exact ⟨0, Nat.zero_le _, rfl, by simp, rfl⟩
            case round =>
              obtain ⟨j, hj, rfl, rfl, rfl⟩ := hrel
              by_cases hjp : j < p
              · obtain ⟨y, hy⟩ := mem_at (l := r) (k := j) (by rw [Hp.out]; exact hjp)
                obtain ⟨b2, o2, rfl, hb2, hc2⟩ := Hrow.out (by rw [Hp.out]; omega)
                have c2 := txt_cell (hc2 j y hy)
                rw [Nat.mul_one] at c2
                have Hy := Lib.hid hy
                clear hc2 hy
                cases hm : decide (g ∈ r.take j) with
                | true =>
                  have HM := Lib.hid (mem_more Hy.out (.inl (of_decide_eq_true hm)))
                  clear hm
                  go_wp2
                  go_roundw
                  case rel => exact ⟨j + 1, by omega, by go_num, by rw [decide_eq_true HM.out], trivial⟩
                  case measure => simp [intOf]; omega
                | false =>
                  by_cases hyg : y = g
                  · have k1 := txt_eq hyg
                    have HM := Lib.hid (mem_more Hy.out (.inr hyg))
                    clear hm hyg
                    go_wp2
                    go_roundw
                    case rel => exact ⟨j + 1, by omega, by go_num, by rw [decide_eq_true HM.out], trivial⟩
                    case measure => simp [intOf]; omega
                  · have k1 := txt_ne hyg
                    have HM := Lib.hid (mem_less Hy.out (of_decide_eq_false hm) hyg)
                    clear hm hyg
                    go_wp2
                    go_roundw
                    case rel => exact ⟨j + 1, by omega, by go_num, by rw [decide_eq_false HM.out], trivial⟩
                    case measure => simp [intOf]; omega
              · obtain rfl : j = p := by omega
                have he : decide (g ∈ r.take j) = true := by rw [List.take_of_length_le (Nat.le_of_eq Hp.out)]; exact Hin.out
                rw [he]
                clear he
                go_wp2
                go_roundw
                case rel => exact ⟨k + 1, N + x / 2, (N + x / 2), true, _, by omega, by omega, by go_num, by go_num, rfl, rfl, hg2, by omega, HT3.out.mono (by omega), HB3.out⟩
                case measure => simp [intOf]; omega
        · have k2 : (x % 2 == 0) = false := by simpa using hev
          have HN := Lib.hid (note1 b m T (3 * k) (g ++ ⟨#[120]⟩) (N + x / 2) wr HT.out (by omega) hgx (by omega) (by omega))
          have hg2 := note_off T g S (N + x / 2)
          go_wp2_with (go_at_call 9; (with_reducible refine HN.out.mono ?_); rintro e w2 ⟨rfl, hT2, hO2⟩; have HT2 := Lib.hid hT2; have HB2 := Lib.hid (hO2.below HB.out HB.out.size (by simp; omega)); clear hT2 hO2)
          clear HN k2 hev
          have HS := Lib.hid (show Calls Try.prog 14 #[.pointer (some ⟨b, 0, none⟩), .string g] w2 (fun e w' => e = .returned (.tuple #[.int .i64 (0), .bool false]) ∧ w' = w2) from by (have h := since_any b m _ _ g w2 HT2.out hg); rw [hg2] at h; exact h)
          have HR := Lib.hid (ripe_yes b m _ _ (N + x / 2) (N + x / 2 - S) w2 HT2.out (by omega) (by omega) (by omega) (by omega))
          go_wp2_with (first
            | (go_at_call 14; (with_reducible refine HS.out.mono ?_); rintro e wk ⟨rfl, rfl⟩)
            | (go_at_call 19; (with_reducible refine HR.out.mono ?_); rintro e w3 ⟨rv, r, rfl, hR3⟩; have HR3 := Lib.hid hR3; clear hR3))
          have Hin := Lib.hid (show decide (g ∈ r) = false from by
            obtain ⟨l5, ho5, _, hr5⟩ := HR3.out.from_
            rw [hr5, show (N + x / 2 - S : Int) = N + x / 2 - S by omega]
            exact mem_ripe ho5 hg2)
          have HB3 := Lib.hid (HB2.out.trans (HR3.out.below.mono HB2.out.size))
          have hrn : r.length ≤ 1000000 := (by
            obtain ⟨l5, _, hl5, hr5⟩ := HR3.out.from_
            rw [hr5]
            refine Nat.le_trans (List.length_filter_le _ _) ?_
            omega)
          obtain ⟨ra, rk, rfl, _, hrow⟩ := HR3.out.rows
          obtain ⟨p, hp⟩ : ∃ p, r.length = p := ⟨_, rfl⟩
          have Hp := Lib.hid hp
          have Hrow := Lib.hid hrow
          have HT3 := Lib.hid (HT2.out.below HR3.out.below)
          rw [hp] at hrn ⊢
          clear hp hrow HR HS HR3 HT2
          go_loopw [13, 14] (fun vm vj wv => ∃ j : Nat, j ≤ p ∧ vj = .int .i64 j ∧ vm = .bool (decide (g ∈ r.take j)) ∧ wv = w3) (fun _ vj _ => p - (intOf vj).toNat)
          case atStart => exact ⟨0, Nat.zero_le _, rfl, by simp, rfl⟩
          case round =>
            obtain ⟨j, hj, rfl, rfl, rfl⟩ := hrel
            by_cases hjp : j < p
            · obtain ⟨y, hy⟩ := mem_at (l := r) (k := j) (by rw [Hp.out]; exact hjp)
              obtain ⟨b2, o2, rfl, hb2, hc2⟩ := Hrow.out (by rw [Hp.out]; omega)
              have c2 := txt_cell (hc2 j y hy)
              rw [Nat.mul_one] at c2
              have Hy := Lib.hid hy
              clear hc2 hy
              cases hm : decide (g ∈ r.take j) with
              | true =>
                have HM := Lib.hid (mem_more Hy.out (.inl (of_decide_eq_true hm)))
                clear hm
                go_wp2
                go_roundw
                case rel => exact ⟨j + 1, by omega, by go_num, by rw [decide_eq_true HM.out], trivial⟩
                case measure => simp [intOf]; omega
              | false =>
                by_cases hyg : y = g
                · have k1 := txt_eq hyg
                  have HM := Lib.hid (mem_more Hy.out (.inr hyg))
                  clear hm hyg
                  go_wp2
                  go_roundw
                  case rel => exact ⟨j + 1, by omega, by go_num, by rw [decide_eq_true HM.out], trivial⟩
                  case measure => simp [intOf]; omega
                · have k1 := txt_ne hyg
                  have HM := Lib.hid (mem_less Hy.out (of_decide_eq_false hm) hyg)
                  clear hm hyg
                  go_wp2
                  go_roundw
                  case rel => exact ⟨j + 1, by omega, by go_num, by rw [decide_eq_false HM.out], trivial⟩
                  case measure => simp [intOf]; omega
            · obtain rfl : j = p := by omega
              have he : decide (g ∈ r.take j) = false := by rw [List.take_of_length_le (Nat.le_of_eq Hp.out)]; exact Hin.out
              rw [he]
              clear he
              go_wp2
              go_roundw
              case rel => exact ⟨k + 1, N + x / 2, S, false, _, by omega, by omega, by go_num, by go_num, rfl, rfl, hg2, by omega, HT3.out.mono (by omega), HB3.out⟩
              case measure => simp [intOf]; omega
      · have k1 : (decide ((k : Int) < (q : Int)) && decide ((k : Int) < 40)) = false := by
          rw [Bool.and_eq_false_iff, decide_eq_false_iff_not, decide_eq_false_iff_not]
          by_cases e : k < q
          · exact .inr (by intro h; exact hlt ⟨e, by omega⟩)
          · exact .inl (by omega)
        by_cases e : k < q
        · have e2 : k = 40 := by omega
          subst e2
          go_wp2_with (go_at_call 21; (with_reducible refine (known_any _).mono ?_); rintro e w4 ⟨rfl, hb4⟩)
          go_ret
          exact ⟨rfl, HB.out.trans (hb4.mono HB.out.size)⟩
        · obtain rfl : k = q := by omega
          go_wp2_with (go_at_call 21; (with_reducible refine (known_any _).mono ?_); rintro e w4 ⟨rfl, hb4⟩)
          go_ret
          exact ⟨rfl, HB.out.trans (hb4.mono HB.out.size)⟩
  · have k3 : decide ((300 : Int) < (g.size : Int)) = true := decide_eq_true (by omega)
    go_enter Try.func4, Try.ntmps4
    go_wp2_with (go_at_call 21; (with_reducible refine (known_any _).mono ?_); rintro e w4 ⟨rfl, hb4⟩)
    go_ret
    exact ⟨rfl, hb4⟩

set_option maxRecDepth 100000 in
theorem lifted (os : Os) (started : os.Started) (H : Type) (enc : TypeId × Value → H) :
    ReturnsInHanded {} Try.checked os 4 .any (Rows.timerKeepsSpec.pre6 enc Try.prog Try.f4 Rows.timerKeepsRow.domain false) (Rows.timerKeepsSpec.post enc Try.prog Try.f4 false true false false) := by
  refine returnsInHanded_of_change (C := Try.checked) Try.own started (by kernel_rfl) Try.func4
    (ChangeSpec.witness6 (enc := enc) (C := Try.checked) false ⟨#[], #[.string ⟨#[]⟩, .slice none 0 0], []⟩ 8 (by kernel_rfl) (by kernel_rfl) (by kernel_rfl) (by kernel_rfl)) ?_
  intro W base args ds gs before hval hW _ _
  have hW' := hW
  obtain ⟨p, q, hA, hV, rfl, hfz, hnd⟩ := hW
  rw [Try.params4] at hA hval
  obtain ⟨v0, v1, d0, d1, p0, p1, rfl, rfl, rfl, h0, h1⟩ := trodAll_two hA
  obtain ⟨g, rfl, _, _, hg⟩ := Go.ChangeMaps.open_string Try.underlying9 (hval 0 9 v0 rfl rfl) h0
  obtain ⟨a, l, k, rfl, _, hF, hl, _⟩ := open_bytes (hval 1 42 v1 rfl rfl) h1
  refine (walk g a l k W hg hF hl).mono fun e W' ⟨he, hb⟩ => ?_
  exact ⟨_, he, law_post Try.laidOut hW' rfl (by kernel_rfl) (by kernel_rfl) Try.underlying4 rfl rfl rfl hb⟩

theorem over : Rows.timerKeepsRow.holds Try.pinned (OpenSpec.ofChange Rows.timerKeepsSpec) :=
  OpenClaim.holds_of_wide 4 Try.f4 rfl rfl rfl rfl rfl rfl rfl ⟨rfl, rfl, rfl, rfl, rfl⟩ rfl rfl rfl rfl rfl (by kernel_rfl) Try.func4 (by kernel_rfl)
    (of_decide_eq_true (by kernel_rfl)) (by unfold Func.isWrapper; first | (rw [if_pos (by decide +kernel)]; kernel_rfl) | (rw [if_neg (by decide +kernel)]; exact ⟨rfl, rfl⟩))
    (fun os started H enc _ => lifted os started H enc)

/-- The statement. -/
theorem proved : Rows.TimerKeepsSaid := over
end timerKeeps
end Go.Proofs.Yteccmjbgedmfhaa
