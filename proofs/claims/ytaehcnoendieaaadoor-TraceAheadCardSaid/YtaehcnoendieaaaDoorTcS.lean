/-
  How many calls events tell, and how many machines were asked for: the program's answers and the document's.
-/
import Derived.Test.YtaehcnoendieaaaDoorTcO
namespace Go.Proofs.YtaehcnoendieaaaDoor
open Go.RowKit
set_option linter.unusedVariables false
set_option linter.unusedSimpArgs false

def callsN (l : List Ev) : Nat := l.countP fun e => inB G4 e.what
def addB (g : ByteArray) (e : Ev) : Bool := inB G5 e.what && decide (e.name = g)
def addedN (g : ByteArray) (l : List Ev) : Int := l.foldl (fun s e => if addB g e = true then s + e.n else s) 0
theorem calls_take {l : List Ev} {k : Nat} {e : Ev} (h : l[k]? = some e) : callsN (l.take (k + 1)) = callsN (l.take k) + (if inB G4 e.what = true then 1 else 0) := by
  unfold callsN
  rw [take_at h, List.countP_append]
  simp [List.countP_cons]
theorem calls_le (l : List Ev) : callsN l ≤ l.length := List.countP_le_length
theorem added_take {g : ByteArray} {l : List Ev} {k : Nat} {e : Ev} (h : l[k]? = some e) : addedN g (l.take (k + 1)) = if addB g e = true then addedN g (l.take k) + e.n else addedN g (l.take k) := by
  unfold addedN
  rw [take_at h, List.foldl_append]
  rfl
theorem fold_le {g : ByteArray} : ∀ (l : List Ev) (s : Int), (∀ e ∈ l, 0 ≤ e.n ∧ e.n ≤ 1099511627776) → 0 ≤ s → 0 ≤ l.foldl (fun s e => if addB g e = true then s + e.n else s) s ∧ l.foldl (fun s e => if addB g e = true then s + e.n else s) s ≤ s + 1099511627776 * l.length
  | [], s, _, h => ⟨h, by simp⟩
  | e :: l, s, hl, h => by
    have he := hl e (by simp)
    rw [List.foldl_cons, List.length_cons]
    split
    · have := fold_le (g := g) l (s + e.n) (fun x hx => hl x (List.mem_cons_of_mem _ hx)) (by omega)
      constructor
      · exact this.1
      · have h2 := this.2
        have : (1099511627776 : Int) * ((l.length + 1 : Nat) : Int) = 1099511627776 * (l.length : Int) + 1099511627776 := by rw [Int.natCast_add, Int.mul_add]; rfl
        omega
    · have := fold_le (g := g) l s (fun x hx => hl x (List.mem_cons_of_mem _ hx)) h
      constructor
      · exact this.1
      · have h2 := this.2
        have : (1099511627776 : Int) * ((l.length + 1 : Nat) : Int) = 1099511627776 * (l.length : Int) + 1099511627776 := by rw [Int.natCast_add, Int.mul_add]; rfl
        omega
theorem added_le {g : ByteArray} {l : List Ev} (h : ∀ e ∈ l, 0 ≤ e.n ∧ e.n ≤ 1099511627776) (hl : l.length ≤ 200) : 0 ≤ addedN g l ∧ addedN g l ≤ 219902325555200 := by
  have := fold_le (g := g) l 0 h (Int.le_refl _)
  unfold addedN
  refine ⟨this.1, ?_⟩
  have h2 := this.2
  omega
set_option maxRecDepth 100000 in
set_option maxHeartbeats 4000000 in
theorem calls_any (l : List Ev) (a : Option Addr) (c : Nat) (w : World) (hF : EvL w a l) (hl : l.length ≤ 200) :
    Calls Tryd.prog 18 #[.slice a l.length c] w fun e w' => e = .returned (.int .i64 (callsN l)) ∧ Below w.heap.size w w' := by
  obtain ⟨n, hn⟩ : ∃ n, l.length = n := ⟨_, rfl⟩
  have HN := Lib.hid hn
  have HF := Lib.hid hF
  have HE := Lib.hid (show callsN (l.take n) = callsN l by rw [← hn, List.take_length])
  obtain ⟨R, hR⟩ : ∃ R, callsN l = R := ⟨_, rfl⟩
  rw [hR] at HE ⊢
  rw [hn] at hl ⊢
  clear hn hF hR
  go_enter Tryd.func18, Tryd.ntmps18
  go_wp2
  go_loopw [3, 8] (fun vn vi wr => ∃ k : Nat, k ≤ n ∧ vn = .int .i64 (callsN (l.take k)) ∧ vi = .int .i64 k ∧ Below w.heap.size w wr) (fun _ vi _ => n - (intOf vi).toNat)
  case atStart => exact ⟨0, by omega, rfl, rfl, Below.refl _ _⟩
  case round =>
    obtain ⟨k, hk, rfl, rfl, hB⟩ := hrel
    have HB := Lib.hid hB
    have hbz := hB.size
    by_cases hlt : k < n
    rotate_left
    · obtain rfl : k = n := by omega
      rw [HE.out]
      go_wp2
      go_ret
      exact ⟨rfl, HB.out⟩
    obtain ⟨e, he⟩ := mem_at (l := l) (k := k) (by rw [HN.out]; exact hlt)
    obtain ⟨b, o, rfl, hb, hcc⟩ := (HF.out.mono hB) (by rw [HN.out]; omega)
    obtain ⟨c0, c1, c2, c3⟩ := ev_cells (hcc k e he)
    have hst := calls_take he
    have hle := calls_le (l.take k)
    have hlk : (l.take k).length ≤ k := List.length_take_le _ _
    obtain ⟨M, hM⟩ : ∃ M, callsN (l.take k) = M := ⟨_, rfl⟩
    rw [hM] at hst hle ⊢
    obtain ⟨now, what, name, en⟩ := e
    dsimp only at c0 c1 c2 c3 hst
    clear hcc he hM
    cases h1 : inB G4 what
    · rw [h1, if_neg (by decide)] at hst
      have Hst := Lib.hid (show M = callsN (l.take (k + 1)) by omega)
      clear hst
      go_wp2_with (go_at_call 27; (with_reducible refine (is4_any _ _ _ _ _ _ (by simp)).mono ?_); rintro e w1 ⟨rfl, hb1⟩; obtain ⟨hc1, hf1⟩ := bcell hb1; have hz1 := hb1.size; (try simp at hz1); have hx1 : w.heap.size < w1.heap.size := by omega)
      go_roundw
      case rel => exact ⟨k + 1, by omega, by rw [← Hst.out], by go_num, by (repeat' (first | with_reducible exact Below.refl _ _ | with_reducible assumption | with_reducible refine Below.drew ?_ | with_reducible refine below_drewN' ?_ _ | with_reducible refine Below.alloc ?_ ?_ _ | with_reducible refine Below.setCell ?_ ?_ _ | with_reducible refine below_step (by assumption) ?_ ?_ | omega | (simp; done) | (simp; omega)))⟩
      case measure => simp [intOf]; omega
    · rw [h1, if_pos rfl] at hst
      have Hst := Lib.hid (show M + 1 = callsN (l.take (k + 1)) by omega)
      have hw : IntKind.i64.wrap ((M : Int) + 1) = (M : Int) + 1 := wrap_in (by omega) (by omega)
      clear hst
      go_wp2_with (go_at_call 27; (with_reducible refine (is4_any _ _ _ _ _ _ (by simp)).mono ?_); rintro e w1 ⟨rfl, hb1⟩; obtain ⟨hc1, hf1⟩ := bcell hb1; have hz1 := hb1.size; (try simp at hz1); have hx1 : w.heap.size < w1.heap.size := by omega)
      go_roundw
      case rel => exact ⟨k + 1, by omega, by rw [← Hst.out]; go_num, by go_num, by (repeat' (first | with_reducible exact Below.refl _ _ | with_reducible assumption | with_reducible refine Below.drew ?_ | with_reducible refine below_drewN' ?_ _ | with_reducible refine Below.alloc ?_ ?_ _ | with_reducible refine Below.setCell ?_ ?_ _ | with_reducible refine below_step (by assumption) ?_ ?_ | omega | (simp; done) | (simp; omega)))⟩
      case measure => simp [intOf]; omega
theorem g4_kind (what : ByteArray) : inB G4 what = (decide (kindB what = 1) || decide (what = ⟨#[99, 108, 101, 97, 110]⟩) || decide (what = ⟨#[100, 101, 108, 101, 116, 101]⟩)) := by
  have h1 : decide (kindB what = 1) = inB G1 what := by
    unfold kindB
    cases inB G1 what
    · rw [if_neg (by decide)]
      split
      · rfl
      · split <;> rfl
    · rfl
  rw [h1]
  unfold inB G4 G1
  simp [List.any_cons, Bool.or_assoc]
set_option maxRecDepth 100000 in
set_option maxHeartbeats 4000000 in
theorem rcalls_any (l : List Ev) (a : Option Addr) (c : Nat) (w : World) (hF : EvL w a l) (hl : l.length ≤ 200) :
    Calls Tryd.prog 19 #[.slice a l.length c] w fun e w' => e = .returned (.int .i64 (callsN l)) ∧ Below w.heap.size w w' := by
  obtain ⟨n, hn⟩ : ∃ n, l.length = n := ⟨_, rfl⟩
  have HN := Lib.hid hn
  have HF := Lib.hid hF
  have HE := Lib.hid (show callsN (l.take n) = callsN l by rw [← hn, List.take_length])
  obtain ⟨R, hR⟩ : ∃ R, callsN l = R := ⟨_, rfl⟩
  rw [hR] at HE ⊢
  rw [hn] at hl ⊢
  clear hn hF hR
  go_enter Tryd.func19, Tryd.ntmps19
  go_wp2
  go_loopw [3, 4] (fun vn vi wr => ∃ k : Nat, k ≤ n ∧ vn = .int .i64 (callsN (l.take k)) ∧ vi = .int .i64 k ∧ Below w.heap.size w wr) (fun _ vi _ => n - (intOf vi).toNat)
  case atStart => exact ⟨0, by omega, rfl, rfl, Below.refl _ _⟩
  case round =>
    obtain ⟨k, hk, rfl, rfl, hB⟩ := hrel
    have HB := Lib.hid hB
    have hbz := hB.size
    by_cases hlt : k < n
    rotate_left
    · obtain rfl : k = n := by omega
      rw [HE.out]
      go_wp2
      go_ret
      exact ⟨rfl, HB.out⟩
    obtain ⟨e, he⟩ := mem_at (l := l) (k := k) (by rw [HN.out]; exact hlt)
    obtain ⟨b, o, rfl, hb, hcc⟩ := (HF.out.mono hB) (by rw [HN.out]; omega)
    obtain ⟨c0, c1, c2, c3⟩ := ev_cells (hcc k e he)
    have hst := calls_take he
    have hle := calls_le (l.take k)
    have hlk : (l.take k).length ≤ k := List.length_take_le _ _
    obtain ⟨M, hM⟩ : ∃ M, callsN (l.take k) = M := ⟨_, rfl⟩
    rw [hM] at hst hle ⊢
    obtain ⟨now, what, name, en⟩ := e
    dsimp only at c0 c1 c2 c3 hst
    have hg := g4_kind what
    have hwM : IntKind.i64.wrap ((M : Int) + 1) = (M : Int) + 1 := wrap_in (by omega) (by omega)
    clear hcc he hM
    by_cases k1 : kindB what = 1
    · have HK1 := Lib.hid (fun w : World => rkind_any what w)
      rw [k1] at HK1
      rw [hg, decide_eq_true k1, Bool.true_or, Bool.true_or, if_pos rfl] at hst
      have Hst := Lib.hid (show M + 1 = callsN (l.take (k + 1)) by omega)
      clear hst hg k1
      go_wp2_with (go_at_call 29; (with_reducible refine (HK1.out _).mono ?_); rintro rr w1 ⟨rfl, rfl⟩)
      go_roundw
      case rel => exact ⟨k + 1, by omega, by rw [← Hst.out]; go_num, by go_num, by (repeat' (first | with_reducible exact Below.refl _ _ | with_reducible assumption | with_reducible refine Below.drew ?_ | with_reducible refine below_drewN' ?_ _ | with_reducible refine Below.alloc ?_ ?_ _ | with_reducible refine Below.setCell ?_ ?_ _ | with_reducible refine below_step (by assumption) ?_ ?_ | omega | (simp; done) | (simp; omega)))⟩
      case measure => simp [intOf]; omega
    · have HK1 := Lib.hid (fun w : World => rkind_any what w)
      obtain ⟨κ, hκ⟩ : ∃ κ, kindB what = κ := ⟨_, rfl⟩
      have hk1 : (((κ : Nat) : Int) == 1) = false := by rw [beq_eq_false_iff_ne]; rw [hκ] at k1; omega
      rw [decide_eq_false k1, Bool.false_or] at hg
      rw [hκ] at HK1
      clear k1 hκ
      by_cases h2 : what = ⟨#[99, 108, 101, 97, 110]⟩
      · have q2 := lit_yes h2
        rw [hg, decide_eq_true h2, Bool.true_or, if_pos rfl] at hst
        have Hst := Lib.hid (show M + 1 = callsN (l.take (k + 1)) by omega)
        clear hst hg h2
        go_wp2_with (go_at_call 29; (with_reducible refine (HK1.out _).mono ?_); rintro rr w1 ⟨rfl, rfl⟩)
        go_roundw
        case rel => exact ⟨k + 1, by omega, by rw [← Hst.out]; go_num, by go_num, by (repeat' (first | with_reducible exact Below.refl _ _ | with_reducible assumption | with_reducible refine Below.drew ?_ | with_reducible refine below_drewN' ?_ _ | with_reducible refine Below.alloc ?_ ?_ _ | with_reducible refine Below.setCell ?_ ?_ _ | with_reducible refine below_step (by assumption) ?_ ?_ | omega | (simp; done) | (simp; omega)))⟩
        case measure => simp [intOf]; omega
      · have q2 : (what.toList == [99, 108, 101, 97, 110]) = false := lit_no h2
        by_cases h3 : what = ⟨#[100, 101, 108, 101, 116, 101]⟩
        · have q3 : (what.toList == [100, 101, 108, 101, 116, 101]) = true := lit_yes h3
          rw [hg, decide_eq_false h2, decide_eq_true h3, Bool.false_or, if_pos rfl] at hst
          have Hst := Lib.hid (show M + 1 = callsN (l.take (k + 1)) by omega)
          clear hst hg h2 h3
          go_wp2_with (go_at_call 29; (with_reducible refine (HK1.out _).mono ?_); rintro rr w1 ⟨rfl, rfl⟩)
          go_roundw
          case rel => exact ⟨k + 1, by omega, by rw [← Hst.out]; go_num, by go_num, by (repeat' (first | with_reducible exact Below.refl _ _ | with_reducible assumption | with_reducible refine Below.drew ?_ | with_reducible refine below_drewN' ?_ _ | with_reducible refine Below.alloc ?_ ?_ _ | with_reducible refine Below.setCell ?_ ?_ _ | with_reducible refine below_step (by assumption) ?_ ?_ | omega | (simp; done) | (simp; omega)))⟩
          case measure => simp [intOf]; omega
        · have q3 : (what.toList == [100, 101, 108, 101, 116, 101]) = false := lit_no h3
          rw [hg, decide_eq_false h2, decide_eq_false h3, Bool.false_or, if_neg (by decide)] at hst
          have Hst := Lib.hid (show M = callsN (l.take (k + 1)) by omega)
          clear hst hg h2 h3
          go_wp2_with (go_at_call 29; (with_reducible refine (HK1.out _).mono ?_); rintro rr w1 ⟨rfl, rfl⟩)
          go_roundw
          case rel => exact ⟨k + 1, by omega, by rw [← Hst.out], by go_num, by (repeat' (first | with_reducible exact Below.refl _ _ | with_reducible assumption | with_reducible refine Below.drew ?_ | with_reducible refine below_drewN' ?_ _ | with_reducible refine Below.alloc ?_ ?_ _ | with_reducible refine Below.setCell ?_ ?_ _ | with_reducible refine below_step (by assumption) ?_ ?_ | omega | (simp; done) | (simp; omega)))⟩
          case measure => simp [intOf]; omega
set_option maxRecDepth 100000 in
set_option maxHeartbeats 4000000 in
theorem added_any (g : ByteArray) (l : List Ev) (a : Option Addr) (c : Nat) (w : World) (hF : EvL w a l) (hl : l.length ≤ 200) (hE : ∀ e ∈ l, 0 ≤ e.n ∧ e.n ≤ 1099511627776) :
    Calls Tryd.prog 22 #[.slice a l.length c, .string g] w fun e w' => e = .returned (.int .i64 (addedN g l)) ∧ Below w.heap.size w w' := by
  have HEn := Lib.hid hE
  clear hE
  obtain ⟨n, hn⟩ : ∃ n, l.length = n := ⟨_, rfl⟩
  have HN := Lib.hid hn
  have HF := Lib.hid hF
  have HE := Lib.hid (show addedN g (l.take n) = addedN g l by rw [← hn, List.take_length])
  obtain ⟨R, hR⟩ : ∃ R, addedN g l = R := ⟨_, rfl⟩
  rw [hR] at HE ⊢
  rw [hn] at hl ⊢
  clear hn hF hR
  go_enter Tryd.func22, Tryd.ntmps22
  go_wp2
  go_loopw [5, 10] (fun vn vi wr => ∃ k : Nat, k ≤ n ∧ vn = .int .i64 (addedN g (l.take k)) ∧ vi = .int .i64 k ∧ Below w.heap.size w wr) (fun _ vi _ => n - (intOf vi).toNat)
  case atStart => exact ⟨0, by omega, rfl, rfl, Below.refl _ _⟩
  case round =>
    obtain ⟨k, hk, rfl, rfl, hB⟩ := hrel
    have HB := Lib.hid hB
    have hbz := hB.size
    by_cases hlt : k < n
    rotate_left
    · obtain rfl : k = n := by omega
      rw [HE.out]
      go_wp2
      go_ret
      exact ⟨rfl, HB.out⟩
    obtain ⟨e, he⟩ := mem_at (l := l) (k := k) (by rw [HN.out]; exact hlt)
    obtain ⟨b, o, rfl, hb, hcc⟩ := (HF.out.mono hB) (by rw [HN.out]; omega)
    obtain ⟨c0, c1, c2, c3⟩ := ev_cells (hcc k e he)
    have hst := added_take (g := g) he
    have hlk : (l.take k).length ≤ k := List.length_take_le _ _
    obtain ⟨hM0, hM1⟩ := added_le (g := g) (l := l.take k) (fun x hx => HEn.out x (List.mem_of_mem_take hx)) (by omega)
    have hen := HEn.out e (List.mem_of_getElem? he)
    obtain ⟨M, hM⟩ : ∃ M, addedN g (l.take k) = M := ⟨_, rfl⟩
    rw [hM] at hst hM0 hM1 ⊢
    obtain ⟨now, what, name, en⟩ := e
    unfold addB at hst
    dsimp only at c0 c1 c2 c3 hst hen
    clear hcc he hM
    cases h1 : inB G5 what
    · rw [h1, Bool.false_and, if_neg (by decide)] at hst
      have Hst := Lib.hid hst
      clear hst
      go_wp2_with (go_at_call 27; (with_reducible refine (is5_any _ _ _ _ _ _ (by simp)).mono ?_); rintro e w1 ⟨rfl, hb1⟩; obtain ⟨hc1, hf1⟩ := bcell hb1; have hz1 := hb1.size; (try simp at hz1); have hx1 : w.heap.size < w1.heap.size := by omega)
      go_roundw
      case rel => exact ⟨k + 1, by omega, by rw [Hst.out], by go_num, by (repeat' (first | with_reducible exact Below.refl _ _ | with_reducible assumption | with_reducible refine Below.drew ?_ | with_reducible refine below_drewN' ?_ _ | with_reducible refine Below.alloc ?_ ?_ _ | with_reducible refine Below.setCell ?_ ?_ _ | with_reducible refine below_step (by assumption) ?_ ?_ | omega | (simp; done) | (simp; omega)))⟩
      case measure => simp [intOf]; omega
    · rw [h1, Bool.true_and] at hst
      by_cases h2 : name = g
      · have q := tnt_str h2
        rw [decide_eq_true h2, if_pos rfl] at hst
        have Hst := Lib.hid hst
        have hw : IntKind.i64.wrap (M + en) = M + en := wrap_in (by omega) (by omega)
        clear hst h2
        go_wp2_with (go_at_call 27; (with_reducible refine (is5_any _ _ _ _ _ _ (by simp)).mono ?_); rintro e w1 ⟨rfl, hb1⟩; obtain ⟨hc1, hf1⟩ := bcell hb1; have hz1 := hb1.size; (try simp at hz1); have hx1 : w.heap.size < w1.heap.size := by omega)
        go_roundw
        case rel => exact ⟨k + 1, by omega, by rw [Hst.out], by go_num, by (repeat' (first | with_reducible exact Below.refl _ _ | with_reducible assumption | with_reducible refine Below.drew ?_ | with_reducible refine below_drewN' ?_ _ | with_reducible refine Below.alloc ?_ ?_ _ | with_reducible refine Below.setCell ?_ ?_ _ | with_reducible refine below_step (by assumption) ?_ ?_ | omega | (simp; done) | (simp; omega)))⟩
        case measure => simp [intOf]; omega
      · have q := tnt_strn h2
        rw [decide_eq_false h2, if_neg (by decide)] at hst
        have Hst := Lib.hid hst
        clear hst h2
        go_wp2_with (go_at_call 27; (with_reducible refine (is5_any _ _ _ _ _ _ (by simp)).mono ?_); rintro e w1 ⟨rfl, hb1⟩; obtain ⟨hc1, hf1⟩ := bcell hb1; have hz1 := hb1.size; (try simp at hz1); have hx1 : w.heap.size < w1.heap.size := by omega)
        go_roundw
        case rel => exact ⟨k + 1, by omega, by rw [Hst.out], by go_num, by (repeat' (first | with_reducible exact Below.refl _ _ | with_reducible assumption | with_reducible refine Below.drew ?_ | with_reducible refine below_drewN' ?_ _ | with_reducible refine Below.alloc ?_ ?_ _ | with_reducible refine Below.setCell ?_ ?_ _ | with_reducible refine below_step (by assumption) ?_ ?_ | omega | (simp; done) | (simp; omega)))⟩
        case measure => simp [intOf]; omega
set_option maxRecDepth 100000 in
set_option maxHeartbeats 4000000 in
theorem radded_any (g : ByteArray) (l : List Ev) (a : Option Addr) (c : Nat) (w : World) (hF : EvL w a l) (hl : l.length ≤ 200) (hE : ∀ e ∈ l, 0 ≤ e.n ∧ e.n ≤ 1099511627776) :
    Calls Tryd.prog 23 #[.slice a l.length c, .string g] w fun e w' => e = .returned (.int .i64 (addedN g l)) ∧ Below w.heap.size w w' := by
  have HEn := Lib.hid hE
  clear hE
  obtain ⟨n, hn⟩ : ∃ n, l.length = n := ⟨_, rfl⟩
  have HN := Lib.hid hn
  have HF := Lib.hid hF
  have HE := Lib.hid (show addedN g (l.take n) = addedN g l by rw [← hn, List.take_length])
  obtain ⟨R, hR⟩ : ∃ R, addedN g l = R := ⟨_, rfl⟩
  rw [hR] at HE ⊢
  rw [hn] at hl ⊢
  clear hn hF hR
  go_enter Tryd.func23, Tryd.ntmps23
  go_wp2
  go_loopw [5, 6] (fun vn vi wr => ∃ k : Nat, k ≤ n ∧ vn = .int .i64 (addedN g (l.take k)) ∧ vi = .int .i64 k ∧ Below w.heap.size w wr) (fun _ vi _ => n - (intOf vi).toNat)
  case atStart => exact ⟨0, by omega, rfl, rfl, Below.refl _ _⟩
  case round =>
    obtain ⟨k, hk, rfl, rfl, hB⟩ := hrel
    have HB := Lib.hid hB
    have hbz := hB.size
    by_cases hlt : k < n
    rotate_left
    · obtain rfl : k = n := by omega
      rw [HE.out]
      go_wp2
      go_ret
      exact ⟨rfl, HB.out⟩
    obtain ⟨e, he⟩ := mem_at (l := l) (k := k) (by rw [HN.out]; exact hlt)
    obtain ⟨b, o, rfl, hb, hcc⟩ := (HF.out.mono hB) (by rw [HN.out]; omega)
    obtain ⟨c0, c1, c2, c3⟩ := ev_cells (hcc k e he)
    have hst := added_take (g := g) he
    have hlk : (l.take k).length ≤ k := List.length_take_le _ _
    obtain ⟨hM0, hM1⟩ := added_le (g := g) (l := l.take k) (fun x hx => HEn.out x (List.mem_of_mem_take hx)) (by omega)
    have hen := HEn.out e (List.mem_of_getElem? he)
    obtain ⟨M, hM⟩ : ∃ M, addedN g (l.take k) = M := ⟨_, rfl⟩
    rw [hM] at hst hM0 hM1 ⊢
    obtain ⟨now, what, name, en⟩ := e
    unfold addB at hst
    dsimp only at c0 c1 c2 c3 hst hen
    have hg5 : inB G5 what = (decide (what = ⟨#[117, 112]⟩) || decide (what = ⟨#[114, 97, 105, 115, 101]⟩)) := by unfold inB G5; simp [List.any_cons]
    rw [hg5] at hst
    have hw : IntKind.i64.wrap (M + en) = M + en := wrap_in (by omega) (by omega)
    clear hcc he hM hg5
    by_cases a1 : what = ⟨#[117, 112]⟩ <;> by_cases a2 : what = ⟨#[114, 97, 105, 115, 101]⟩ <;> by_cases a3 : name = g
    all_goals
      (first | (have p1 : (what.toList == [117, 112]) = true := lit_yes a1) | (have p1 : (what.toList == [117, 112]) = false := lit_no a1))
      (first | (have p2 : (what.toList == [114, 97, 105, 115, 101]) = true := lit_yes a2) | (have p2 : (what.toList == [114, 97, 105, 115, 101]) = false := lit_no a2))
      (first | (have p3 := tnt_str a3) | (have p3 := tnt_strn a3))
      (first | rw [decide_eq_true a1] at hst | rw [decide_eq_false a1] at hst)
      (first | rw [decide_eq_true a2] at hst | rw [decide_eq_false a2] at hst)
      (first | rw [decide_eq_true a3] at hst | rw [decide_eq_false a3] at hst)
      (simp only [Bool.or_true, Bool.or_false, Bool.true_or, Bool.false_or, Bool.true_and, Bool.false_and, Bool.and_true, Bool.and_false, if_true, if_false, Bool.false_eq_true] at hst)
      have Hst := Lib.hid hst
      clear hst a1 a2 a3
      go_wp2
      go_roundw
      case rel => exact ⟨k + 1, by omega, by rw [Hst.out], by go_num, by (repeat' (first | with_reducible exact Below.refl _ _ | with_reducible assumption | with_reducible refine Below.drew ?_ | with_reducible refine below_drewN' ?_ _ | with_reducible refine Below.alloc ?_ ?_ _ | with_reducible refine Below.setCell ?_ ?_ _ | with_reducible refine below_step (by assumption) ?_ ?_ | omega | (simp; done) | (simp; omega)))⟩
      case measure => simp [intOf]; omega
end Go.Proofs.YtaehcnoendieaaaDoor
