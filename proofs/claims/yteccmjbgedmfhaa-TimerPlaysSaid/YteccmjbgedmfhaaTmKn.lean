/-
  What comes of fixed calls: known gives back true.
-/
import Derived.Test.YteccmjbgedmfhaaTmRip
import Derived.Test.YteccmjbgedmfhaaTm2
namespace Go.Proofs.Yteccmjbgedmfhaa
open Go.RowKit
set_option linter.unusedVariables false
set_option linter.unusedSimpArgs false

abbrev sa : ByteArray := ⟨#[97]⟩
abbrev sb : ByteArray := ⟨#[98]⟩
abbrev sc : ByteArray := ⟨#[99]⟩
def K1 := noteT (fun _ => none) [sa, sb] 5
def K2 := noteT K1 [sb] 7
def K3 := noteT K2 [sa, sb] 9
def K4 := updT K3 sb none
theorem k3_a : K3 sa = some 9 := by decide +kernel
theorem k3_b : K3 sb = some 5 := by decide +kernel
theorem k3_c : K3 sc = none := by decide +kernel
theorem k3_mem (s : ByteArray) : (K3 s).isSome = true ↔ s = sa ∨ s = sb := by
  unfold K3 noteT
  by_cases h : s ∈ [sa, sb]
  · rw [if_pos h]; simpa using h
  · rw [if_neg h]; simpa using h
theorem k4_mem (s : ByteArray) : (K4 s).isSome = true ↔ s = sa := by
  by_cases h : s = sb
  · subst h
    rw [show K4 sb = none from updT_same _ _ _]
    simp
  · rw [show K4 s = K3 s from updT_other h, k3_mem]
    simp [h]
theorem only_one {α : Type} {x : α} : ∀ {l : List α}, l.Nodup → (∀ s, s ∈ l ↔ s = x) → l = [x]
  | [], _, h => absurd ((h x).2 rfl) (by simp)
  | [y], _, h => by rw [(h y).1 (by simp)]
  | y :: z :: l, hn, h => by
    have h1 := (h y).1 (by simp)
    have h2 := (h z).1 (by simp)
    rw [h1, h2] at hn
    simp at hn
theorem kn_ripe {l : List ByteArray} (h : Ordered K3 l) : l.filter (ripeB K3 10 5) = [sb] := by
  refine only_one (h.nd.filter _) fun s => ?_
  rw [List.mem_filter, h.mem, k3_mem]
  constructor
  · rintro ⟨rfl | rfl, h2⟩
    · exfalso
      unfold ripeB ordT at h2
      rw [k3_a] at h2
      exact absurd h2 (by decide)
    · rfl
  · rintro rfl
    refine ⟨.inr rfl, ?_⟩
    unfold ripeB ordT
    rw [k3_b]
    decide
theorem kn_names {l : List ByteArray} (h : Ordered K4 l) : l = [sa] := only_one h.nd fun s => by rw [h.mem, k4_mem]
theorem isL_own {base : Nat} {t : TypeId} {l : List ByteArray} {v : Value} {w : World} (h : w.ownsRow base t 1 v l.length (l.map Value.string)) : IsL scs 1 l v w := by
  refine IsL.of_own (base := base) (e := t) scs_len (by decide) ?_
  have e : l.flatMap scs = l.map Value.string := by
    clear h
    induction l with
    | nil => rfl
    | cons x l ih => rw [List.flatMap_cons, ih]; rfl
  rw [e]
  exact h
theorem lit2 (w : World) (x y : ByteArray) (t : TypeId) : TxtL (w.alloc (.cells #[.string x, .string y] t)) (some ⟨w.heap.size, 0, none⟩) [x, y] := RowsAt.new scs_len w [x, y] t
theorem lit1 (w : World) (x : ByteArray) (t : TypeId) : TxtL (w.alloc (.cells #[.string x] t)) (some ⟨w.heap.size, 0, none⟩) [x] := RowsAt.new scs_len w [x] t
theorem note2 (b m : Nat) (T : ByteArray → Option Int) (n : Nat) (x y : ByteArray) (now : Int) (w : World) (h : TB w b m T n) (hn : n ≤ 1000000) (hx : x.size ≤ maxLen) (hy : y.size ≤ maxLen) (h0 : 0 ≤ now) (h1 : now ≤ 1099511627776) :
    Calls Try.prog 9 #[.pointer (some ⟨b, 0, none⟩), .slice (some ⟨w.heap.size, 0, none⟩) 2 2, .int .i64 now] (w.alloc (.cells #[.string x, .string y] 9)) fun e w' => e = .returned (.tuple #[]) ∧ TB w' b m (noteT T [x, y] now) (n + 2) ∧ Only [b, m] w w' := by
  refine (note_yes b m T n (some ⟨w.heap.size, 0, none⟩) 2 [x, y] now _ (h.below ((Below.refl _ _).alloc (Nat.le_refl _) _)) hn (lit2 _ _ _ _) (by simp) (fun s hs => ?_) h0 h1).mono fun e w' ⟨he, hT, hO⟩ => ⟨he, hT, ((Only.refl _ _).alloc _).trans hO⟩
  simp at hs
  rcases hs with rfl | rfl <;> assumption
theorem note1 (b m : Nat) (T : ByteArray → Option Int) (n : Nat) (x : ByteArray) (now : Int) (w : World) (h : TB w b m T n) (hn : n ≤ 1000000) (hx : x.size ≤ maxLen) (h0 : 0 ≤ now) (h1 : now ≤ 1099511627776) :
    Calls Try.prog 9 #[.pointer (some ⟨b, 0, none⟩), .slice (some ⟨w.heap.size, 0, none⟩) 1 1, .int .i64 now] (w.alloc (.cells #[.string x] 9)) fun e w' => e = .returned (.tuple #[]) ∧ TB w' b m (noteT T [x] now) (n + 1) ∧ Only [b, m] w w' := by
  refine (note_yes b m T n (some ⟨w.heap.size, 0, none⟩) 1 [x] now _ (h.below ((Below.refl _ _).alloc (Nat.le_refl _) _)) hn (lit1 _ _ _) (by simp) (fun s hs => ?_) h0 h1).mono fun e w' ⟨he, hT, hO⟩ => ⟨he, hT, ((Only.refl _ _).alloc _).trans hO⟩
  simp at hs
  rw [hs]
  exact hx

set_option maxRecDepth 100000 in
set_option maxHeartbeats 8000000 in
theorem known_any (w : World) : Calls Try.prog 21 #[] w fun e w' => e = .returned (.bool true) ∧ Below w.heap.size w w' := by
  have z1 : sa.size ≤ maxLen := by decide
  have z2 : sb.size ≤ maxLen := by decide
  go_enter Try.func21, Try.ntmps21
  go_wp2_with (go_at_call 7; (with_reducible refine (new_any _).mono ?_); rintro e w1 ⟨b, m, rfl, hT1, hbb, hmm, hb1⟩)
  have HB1 := Lib.hid hb1
  have HN1 := Lib.hid (note2 b m _ 0 sa sb 5 w1 hT1 (by decide) z1 z2 (by decide) (by decide))
  clear hT1 hb1
  go_wp2_with (go_at_call 9; (with_reducible refine HN1.out.mono ?_); rintro e w2 ⟨rfl, hT2, hO2⟩)
  have HB2 := Lib.hid (hO2.below HB1.out HB1.out.size (by simp; omega))
  have HN2 := Lib.hid (note1 b m _ 2 sb 7 w2 hT2 (by decide) z2 (by decide) (by decide))
  clear hT2 hO2 HN1 HB1
  go_wp2_with (go_at_call 9; (with_reducible refine HN2.out.mono ?_); rintro e w3 ⟨rfl, hT3, hO3⟩)
  have HB3 := Lib.hid (hO3.below HB2.out HB2.out.size (by simp; omega))
  have HN3 := Lib.hid (note2 b m _ 3 sa sb 9 w3 hT3 (by decide) z1 z2 (by decide) (by decide))
  clear hT3 hO3 HN2 HB2
  go_wp2_with (go_at_call 9; (with_reducible refine HN3.out.mono ?_); rintro e w4 ⟨rfl, hT4, hO4⟩)
  have HB4 := Lib.hid (hO4.below HB3.out HB3.out.size (by simp; omega))
  have HT4 := Lib.hid (show TB w4 b m K3 5 from hT4)
  have S1 := since_any b m K3 5 sa w4 HT4.out (by decide)
  have S2 := since_any b m K3 5 sb w4 HT4.out (by decide)
  have S3 := since_any b m K3 5 sc w4 HT4.out (by decide)
  rw [k3_a] at S1
  rw [k3_b] at S2
  rw [k3_c] at S3
  have HS1 := Lib.hid (show Calls Try.prog 14 #[.pointer (some ⟨b, 0, none⟩), .string sa] w4 (fun e w' => e = .returned (.tuple #[.int .i64 9, .bool true]) ∧ w' = w4) from S1)
  have HS2 := Lib.hid (show Calls Try.prog 14 #[.pointer (some ⟨b, 0, none⟩), .string sb] w4 (fun e w' => e = .returned (.tuple #[.int .i64 5, .bool true]) ∧ w' = w4) from S2)
  have HS3 := Lib.hid (show Calls Try.prog 14 #[.pointer (some ⟨b, 0, none⟩), .string sc] w4 (fun e w' => e = .returned (.tuple #[.int .i64 0, .bool false]) ∧ w' = w4) from S3)
  have HR := Lib.hid (ripe_yes b m K3 5 10 5 w4 HT4.out (by decide) (by decide) (by decide) (by decide))
  clear hT4 hO4 HN3 HB3 S1 S2 S3
  go_wp2_with (first
    | (go_at_call 14; (with_reducible refine HS1.out.mono ?_); rintro e wk ⟨rfl, rfl⟩)
    | (go_at_call 14; (with_reducible refine HS2.out.mono ?_); rintro e wk ⟨rfl, rfl⟩)
    | (go_at_call 14; (with_reducible refine HS3.out.mono ?_); rintro e wk ⟨rfl, rfl⟩))
  go_wp2_with (go_at_call 19; (with_reducible refine HR.out.mono ?_); rintro e w5 ⟨rv, rr, rfl, hR⟩; have HR5 := Lib.hid hR; clear hR)
  obtain ⟨l5, ho5, _, hr5⟩ := HR5.out.from_
  have hrr : rr = [sb] := by rw [hr5]; exact kn_ripe ho5
  subst hrr
  have HD := Lib.hid (drop_any b m K3 5 sb w5 (HT4.out.below HR5.out.below) (by decide))
  have HB5 := Lib.hid (HB4.out.trans (HR5.out.below.mono HB4.out.size))
  go_wp2_with (go_at_call 11; (with_reducible refine HD.out.mono ?_); rintro e w6 ⟨rfl, hT6, hO6⟩)
  have hlm := HT4.out.mp.lt
  have hlb := HT4.out.row.lt
  have HI6 := Lib.hid (isL_only HR5.out.rows hO6 (fun a x y e => by have := HR5.out.new a x y e; simp; omega))
  have HB6 := Lib.hid (hO6.below HB5.out HB5.out.size (by simp; omega))
  have HT6 := Lib.hid (show TB w6 b m K4 5 from hT6)
  obtain ⟨ra, rk, hrv, _, hrow⟩ := HI6.out
  have hrv2 : rv = .slice ra 1 rk := hrv
  clear hrv HI6
  subst hrv2
  have HT16 := Lib.hid (show Calls Try.prog 16 #[.slice ra 1 rk, .slice (some ⟨w6.heap.size, 0, none⟩) 1 1] (w6.alloc (.cells #[.string sb] 9)) (fun e w' => e = .returned (.bool (decide ([sb] = [sb]))) ∧ Below (w6.alloc (.cells #[.string sb] 9)).heap.size (w6.alloc (.cells #[.string sb] 9)) w') from texts_any ra (some ⟨w6.heap.size, 0, none⟩) rk 1 [sb] [sb] (w6.alloc (.cells #[.string sb] 9)) (hrow.mono ((Below.refl _ _).alloc (Nat.le_refl _) _)) (lit1 _ _ _) (by decide) (by decide))
  rw [decide_eq_true rfl] at HT16
  clear hT6 hO6 hrow hr5 ho5
  go_wp2_with (first
    | (go_at_call 16; (with_reducible refine HT16.out.mono ?_); rintro e w7 ⟨rfl, hb7⟩; have HB7 := Lib.hid hb7; clear hb7)
    | (go_at_call 17; (with_reducible refine (names_any b m K4 5 _ (HT6.out.below (((Below.refl _ _).alloc (Nat.le_refl _) _).trans (HB7.out.mono (by simp)))) (by decide)).mono ?_); rintro e w8 ⟨nv, nl, rfl, hN⟩; have HN8 := Lib.hid hN; clear hN))
  have hnl := kn_names HN8.out.ord
  subst hnl
  obtain ⟨qa, qk, hqv, _, qrow⟩ := isL_own HN8.out.own
  have hqv2 : nv = .slice qa 1 qk := hqv
  clear hqv
  subst hqv2
  have HT17 := Lib.hid (show Calls Try.prog 16 #[.slice qa 1 qk, .slice (some ⟨w8.heap.size, 0, none⟩) 1 1] (w8.alloc (.cells #[.string sa] 9)) (fun e w' => e = .returned (.bool (decide ([sa] = [sa]))) ∧ Below (w8.alloc (.cells #[.string sa] 9)).heap.size (w8.alloc (.cells #[.string sa] 9)) w') from texts_any qa (some ⟨w8.heap.size, 0, none⟩) qk 1 [sa] [sa] (w8.alloc (.cells #[.string sa] 9)) (qrow.mono ((Below.refl _ _).alloc (Nat.le_refl _) _)) (lit1 _ _ _) (by decide) (by decide))
  rw [decide_eq_true rfl] at HT17
  have HB8 := Lib.hid (HB6.out.trans ((((Below.refl w6.heap.size w6).alloc (Nat.le_refl _) _).trans (HB7.out.mono (by simp))).mono HB6.out.size))
  have HB9 := Lib.hid (HB8.out.trans (HN8.out.below.mono HB8.out.size))
  clear qrow
  go_wp2_with (go_at_call 16; (with_reducible refine HT17.out.mono ?_); rintro e w9 ⟨rfl, hb9⟩; have HB10 := Lib.hid hb9; clear hb9)
  go_ret
  exact ⟨rfl, HB9.out.trans (((Below.refl w8.heap.size w8).alloc (Nat.le_refl _) _).trans (HB10.out.mono (by simp)) |>.mono HB9.out.size)⟩
end Go.Proofs.Yteccmjbgedmfhaa
