/-
  The ledger's table: what it holds; made, find, cost.
-/
import Derived.Test.YtaipiflbigpniaaOnly
import Derived.Test.YtaipiflbigpniaaLst
import Derived.Test.YtaipiflbigpniaaTail
import Derived.LaidEqlPtr
namespace Go.Proofs.Ytaipiflbigpniaa
open Go.RowKit
set_option linter.unusedVariables false
set_option linter.unusedSimpArgs false

theorem lwrap_in {x : Int} (h : -9223372036854775808 ≤ x) (h' : x < 9223372036854775808) : IntKind.i64.wrap x = x := by simp [IntKind.wrap, IntKind.bits, IntKind.signed]; omega
theorem eql_nil_ptr {P : Program} (w : World) (t : TypeId) (a : Addr) (h : P.underlying t = some (.pointer (P.pointee t))) :
    (binOp .eql t (.pointer none) (.pointer (some a))).run P w = .ok (.bool false) w := by
  have h1 : ∀ d : Nat, (Op.equalIn (d + 1) t (.pointer none) (.pointer (some a))).run P w = .ok false w := fun d => by simp [Op.equalIn, run_underlying h]
  simp only [binOp]
  simp [Op.equal, Op.maxDepth, h1 9999]
theorem info_tab : Try.prog.info? 53 = some ((Try.prog.info? 53).getD default) := by kernel_rfl
theorem made_yes (b : Nat) (w : World) (c0 : w.cell? ⟨b, 0, none⟩ = some (.pointer (some ⟨b, 0, none⟩))) :
    Calls Try.prog 27 #[.pointer (some ⟨b, 0, none⟩)] w fun e w' => e = .returned (.bool true) ∧ w' = w := by
  have hq := run_eql_ptr_same (P := Try.prog) w ⟨b, 0, none⟩ Try.underlying27 info_tab
  go_enter Try.func27, Try.ntmps27
  go_wp2
  go_ret
  exact ⟨rfl, rfl⟩
theorem made_nil (w : World) : Calls Try.prog 27 #[.pointer none] w fun e w' => e = .returned (.bool false) ∧ w' = w := by
  go_enter Try.func27, Try.ntmps27
  go_wp2
  go_ret
  exact ⟨rfl, rfl⟩
theorem made_zero (b : Nat) (w : World) (c0 : w.cell? ⟨b, 0, none⟩ = some (.pointer none)) :
    Calls Try.prog 27 #[.pointer (some ⟨b, 0, none⟩)] w fun e w' => e = .returned (.bool false) ∧ w' = w := by
  have hq := eql_nil_ptr (P := Try.prog) w 27 ⟨b, 0, none⟩ (by kernel_rfl)
  go_enter Try.func27, Try.ntmps27
  go_wp2
  go_ret
  exact ⟨rfl, rfl⟩

structure Ac where
  nm : ByteArray
  pr : Int
  su : Int
  pk : Int
def acc (x : Ac) : List Value := [.string x.nm, .int .i64 x.pr, .int .i64 x.su, .int .i64 x.pk]
theorem acc_len (x : Ac) : (acc x).length = 4 := rfl
theorem acc_one (x : Ac) : ∀ u ∈ acc x, u.oneCell' = true := by
  intro u hu
  simp [acc] at hu
  rcases hu with rfl | rfl | rfl | rfl <;> rfl
structure LT (w : World) (base b : Nat) (A : List Ac) (v : Value) (tk : Int) : Prop where
  row : Blk w b 53 [.pointer (some ⟨b, 0, none⟩), v, .int .i64 tk]
  own : w.ownsRow base 60 4 v A.length (A.flatMap acc)
  ne : v.ownBlock ≠ some b
  hb : base ≤ b
theorem own_same {w w' : World} {B : Nat} {v : Value} {n k : Nat} {e : TypeId} {xs : List Value} (h : w.ownsRow B e k v n xs) (hb : ∀ g, v.ownBlock = some g → w'.heap[g]? = w.heap[g]?) : w'.ownsRow B e k v n xs := by
  refine ⟨h.1, ?_⟩
  rcases h.2 with h | ⟨g, cap, cur, rfl, h1, h2, h3⟩
  · exact .inl h
  · exact .inr ⟨g, cap, cur, rfl, h1, (hb g rfl).trans h2, h3⟩
theorem own_lt {w : World} {B : Nat} {v : Value} {n k : Nat} {e : TypeId} {xs : List Value} (h : w.ownsRow B e k v n xs) {g : Nat} (hg : v.ownBlock = some g) : B ≤ g ∧ g < w.heap.size := by
  rcases h.2 with ⟨rfl, _⟩ | ⟨g', cap, cur, rfl, h1, h2, h3⟩
  · cases hg
  · obtain rfl : g' = g := Option.some.inj hg
    exact ⟨h1, (Array.getElem?_eq_some_iff.1 h2).1⟩
section
variable {w w' : World} {base b : Nat} {A : List Ac} {v : Value} {tk : Int}
theorem LT.only {S : List Nat} (h : LT w base b A v tk) (ho : Only S w w') (hb : b ∉ S) (hv : ∀ g, v.ownBlock = some g → g ∉ S) : LT w' base b A v tk :=
  ⟨h.row.only ho hb, own_same h.own fun g hg => ho.block g (own_lt h.own hg).2 (hv g hg), h.ne, h.hb⟩
theorem LT.below (h : LT w base b A v tk) (hb : Below w.heap.size w w') : LT w' base b A v tk := h.only (Only.of_below (S := []) hb) (by simp) (fun _ _ => by simp)
theorem LT.rows (h : LT w base b A v tk) : ∃ a k, v = .slice a A.length k ∧ (0 < A.length → ∃ g, a = some ⟨g, 0, none⟩ ∧ base ≤ g ∧ g < w.heap.size ∧ ∀ i x, A[i]? = some x → w.cell? ⟨g, i * 4, none⟩ = some (.string x.nm) ∧ w.cell? ⟨g, i * 4 + 1, none⟩ = some (.int .i64 x.pr) ∧ w.cell? ⟨g, i * 4 + 2, none⟩ = some (.int .i64 x.su) ∧ w.cell? ⟨g, i * 4 + 3, none⟩ = some (.int .i64 x.pk)) := by
  obtain ⟨a, k, e, hc⟩ := own_rows acc_len h.own (by decide)
  refine ⟨a, k, e, fun h0 => ?_⟩
  obtain ⟨g, h1, h2, h3, h4⟩ := hc h0
  refine ⟨g, h1, h2, h3, fun i x hx => ?_⟩
  have h5 := h4 i x hx
  simp only [Nat.zero_add] at h5
  exact ⟨h5 0 (by decide), h5 1 (by decide), h5 2 (by decide), h5 3 (by decide)⟩
end
def noAc : Ac := ⟨⟨#[]⟩, 0, 0, 0⟩
def findAc : List Ac → ByteArray → Ac
  | [], _ => noAc
  | x :: l, s => if x.nm = s then x else findAc l s
abbrev acv (x : Ac) : Value := .agg #[.string x.nm, .int .i64 x.pr, .int .i64 x.su, .int .i64 x.pk]

set_option maxRecDepth 100000 in
theorem find_none (p : Option Addr) (s : ByteArray) (w : World) (hM : ∀ V, Below w.heap.size w V → Calls Try.prog 27 #[.pointer p] V fun e w' => e = .returned (.bool false) ∧ w' = V) :
    Calls Try.prog 29 #[.pointer p, .string s] w fun e w' => e = .returned (.agg #[.string ⟨#[]⟩, .int .i64 0, .int .i64 0, .int .i64 0]) ∧ Below w.heap.size w w' := by
  have HM := Lib.hid hM
  clear hM
  go_enter Try.func29, Try.ntmps29
  go_wp2_with (go_at_call 27; (with_reducible refine (HM.out _ (by (repeat' (first | with_reducible exact Below.refl _ _ | with_reducible assumption | with_reducible refine Below.drew ?_ | with_reducible refine below_drewN' ?_ _ | with_reducible refine Below.alloc ?_ ?_ _ | with_reducible refine Below.setCell ?_ ?_ _ | with_reducible refine below_step (by assumption) ?_ ?_ | omega | (simp; done) | (simp; omega))))).mono ?_); rintro e w1 ⟨rfl, rfl⟩)
  refine bodyPost_ret (by simp [results, Try.results29, go_sem]; rfl) rfl ?_
  exact ⟨rfl, by (repeat' (first | with_reducible exact Below.refl _ _ | with_reducible assumption | with_reducible refine Below.drew ?_ | with_reducible refine below_drewN' ?_ _ | with_reducible refine Below.alloc ?_ ?_ _ | with_reducible refine Below.setCell ?_ ?_ _ | with_reducible refine below_step (by assumption) ?_ ?_ | omega | (simp; done) | (simp; omega)))⟩

theorem findAc_at {s : ByteArray} : ∀ {l : List Ac} {k : Nat} {x : Ac}, l[k]? = some x → x.nm = s → (∀ (j : Nat) (y : Ac), j < k → l[j]? = some y → y.nm ≠ s) → findAc l s = x
  | [], k, x, h, _, _ => by simp at h
  | y :: l, 0, x, h, hx, _ => by
    obtain rfl : y = x := by simpa using h
    exact if_pos hx
  | y :: l, k + 1, x, h, hx, hn => by
    have h0 := hn 0 y (by omega) rfl
    unfold findAc
    rw [if_neg h0]
    exact findAc_at (by simpa using h) hx fun j z hj hz => hn (j + 1) z (by omega) (by simpa using hz)
theorem findAc_none {s : ByteArray} : ∀ {l : List Ac}, (∀ (j : Nat) (y : Ac), l[j]? = some y → y.nm ≠ s) → findAc l s = noAc
  | [], _ => rfl
  | y :: l, hn => by
    unfold findAc
    rw [if_neg (hn 0 y rfl)]
    exact findAc_none fun j z hz => hn (j + 1) z (by simpa using hz)
theorem ld_eq {a b : ByteArray} (h : a = b) : (a.toList == b.toList) = true := by rw [h]; simp
theorem ld_ne {a b : ByteArray} (h : ¬ a = b) : (a.toList == b.toList) = false := by
  rw [beq_eq_false_iff_ne]
  intro e
  rw [ByteArray.toList_eq, ByteArray.toList_eq] at e
  exact h (ByteArray.ext (Array.toList_inj.1 e))

set_option maxRecDepth 100000 in
set_option maxHeartbeats 4000000 in
theorem find_tab (base b : Nat) (A : List Ac) (v : Value) (tk : Int) (s : ByteArray) (w : World) (h : LT w base b A v tk) (hA : A.length ≤ 1000000) :
    Calls Try.prog 29 #[.pointer (some ⟨b, 0, none⟩), .string s] w fun e w' => e = .returned (acv (findAc A s)) ∧ Below w.heap.size w w' := by
  have Hh := Lib.hid h
  obtain ⟨a, kc, rfl, hc⟩ := h.rows
  have c0 := h.row.cell 0
  have c1 := h.row.cell 1
  dsimp only [List.getElem?_cons_zero, List.getElem?_cons_succ] at c0 c1
  have hbl := h.row.lt
  obtain ⟨n, hn⟩ : ∃ n, A.length = n := ⟨_, rfl⟩
  have Hn := Lib.hid hn
  have Hc := Lib.hid hc
  rw [hn] at c1 hA
  clear h hc hn
  go_enter Try.func29, Try.ntmps29
  go_wp2_with (go_at_call 27; (with_reducible refine (made_yes b _ ((Hh.out.below (by (repeat' (first | with_reducible exact Below.refl _ _ | with_reducible assumption | with_reducible refine Below.drew ?_ | with_reducible refine below_drewN' ?_ _ | with_reducible refine Below.alloc ?_ ?_ _ | with_reducible refine Below.setCell ?_ ?_ _ | with_reducible refine below_step (by assumption) ?_ ?_ | omega | (simp; done) | (simp; omega))))).row.cell 0)).mono ?_); rintro e w1 ⟨rfl, rfl⟩)
  go_loopw [14] (fun i wr => ∃ j : Nat, j ≤ n ∧ i = .int .i64 j ∧ (∀ q y, q < j → A[q]? = some y → y.nm ≠ s) ∧ Below w.heap.size w wr ∧ Blk wr w.heap.size 60 [.string ⟨#[]⟩, .int .i64 0, .int .i64 0, .int .i64 0]) (fun i _ => n - (intOf i).toNat)
  case atStart => exact ⟨0, Nat.zero_le _, rfl, fun q y hq => by omega, by (repeat' (first | with_reducible exact Below.refl _ _ | with_reducible assumption | with_reducible refine Below.drew ?_ | with_reducible refine below_drewN' ?_ _ | with_reducible refine Below.alloc ?_ ?_ _ | with_reducible refine Below.setCell ?_ ?_ _ | with_reducible refine below_step (by assumption) ?_ ?_ | omega | (simp; done) | (simp; omega))), Blk.new w 60 [.string ⟨#[]⟩, .int .i64 0, .int .i64 0, .int .i64 0]⟩
  case round =>
    obtain ⟨j, hj, rfl, hE, hB, hR⟩ := hrel
    obtain ⟨hcB, hfB⟩ := bcell hB
    have hbz := hB.size
    have HE := Lib.hid hE
    have HB := Lib.hid hB
    have hz := hR.lt
    have HR := Lib.hid hR
    have r0 : wr.cell? ⟨w.heap.size, 0, none⟩ = some (.string ⟨#[]⟩) := hR.cell 0
    have r1 : wr.cell? ⟨w.heap.size, 1, none⟩ = some (.int .i64 0) := hR.cell 1
    have r2 : wr.cell? ⟨w.heap.size, 2, none⟩ = some (.int .i64 0) := hR.cell 2
    have r3 : wr.cell? ⟨w.heap.size, 3, none⟩ = some (.int .i64 0) := hR.cell 3
    have f0 := hR.frozen 0
    have f1 := hR.frozen 1
    have f2 := hR.frozen 2
    have f3 := hR.frozen 3
    clear hE hR
    by_cases hjn : j < n
    · obtain ⟨g, rfl, hb0, hb1, hc⟩ := Hc.out (by rw [Hn.out]; omega)
      obtain ⟨y, hy⟩ := mem_at (l := A) (k := j) (by rw [Hn.out]; exact hjn)
      obtain ⟨d0, d1, d2, d3⟩ := hc j y hy
      have hgw : g < wr.heap.size := by omega
      by_cases he : y.nm = s
      · have k1 := ld_eq he
        have HF := Lib.hid (findAc_at hy he HE.out)
        have HRA := Lib.hid (HR.out.alloc (.cells #[.string y.nm, .int .i64 y.pr, .int .i64 y.su, .int .i64 y.pk] 60))
        clear hy hc hfB
        subst he
        go_wp2
        have HR4 := ((((HR.out.set 0 (.string y.nm)).set 1 (.int .i64 y.pr)).set 2 (.int .i64 y.su)).set 3 (.int .i64 y.pk)).alloc (.cells #[.string y.nm, .int .i64 y.pr, .int .i64 y.su, .int .i64 y.pk] 60)
        have q0 := HR4.cell 0
        have q1 := HR4.cell 1
        have q2 := HR4.cell 2
        have q3 := HR4.cell 3
        refine bodyPost_ret (by simp [results, Try.results29, go_sem, q0, q1, q2, q3]; rfl) rfl ?_
        exact ⟨by rw [HF.out], by (repeat' (first | with_reducible exact Below.refl _ _ | with_reducible assumption | with_reducible refine Below.drew ?_ | with_reducible refine below_drewN' ?_ _ | with_reducible refine Below.alloc ?_ ?_ _ | with_reducible refine Below.setCell ?_ ?_ _ | with_reducible refine below_step (by assumption) ?_ ?_ | omega | (simp; done) | (simp; omega)))⟩
      · have k1 := ld_ne he
        have hE2 := Lib.hid (show ∀ q z, q < j + 1 → A[q]? = some z → z.nm ≠ s from fun q z hq hz2 => by
          by_cases e : q < j
          · exact HE.out q z e hz2
          · obtain rfl : q = j := by omega
            rw [hy] at hz2
            obtain rfl := Option.some.inj hz2
            exact he)
        clear hy hc
        go_wp2
        go_roundw
        case rel => exact ⟨j + 1, by omega, by go_num, hE2.out, by (repeat' (first | with_reducible exact Below.refl _ _ | with_reducible assumption | with_reducible refine Below.drew ?_ | with_reducible refine below_drewN' ?_ _ | with_reducible refine Below.alloc ?_ ?_ _ | with_reducible refine Below.setCell ?_ ?_ _ | with_reducible refine below_step (by assumption) ?_ ?_ | omega | (simp; done) | (simp; omega))), HR.out.alloc _⟩
        case measure => simp [intOf]; omega
    · obtain rfl : j = n := by omega
      have HF := Lib.hid (findAc_none (s := s) (l := A) fun q y hq => HE.out q y (by have := lt_at hq; rw [Hn.out] at this; exact this) hq)
      go_wp2
      have HR4 := (((HR.out.set 0 (.string ⟨#[]⟩)).set 1 (.int .i64 0)).set 2 (.int .i64 0)).set 3 (.int .i64 0)
      have q0 := HR4.cell 0
      have q1 := HR4.cell 1
      have q2 := HR4.cell 2
      have q3 := HR4.cell 3
      refine bodyPost_ret (by simp [results, Try.results29, go_sem, q0, q1, q2, q3]; rfl) rfl ?_
      exact ⟨by rw [HF.out]; rfl, by (repeat' (first | with_reducible exact Below.refl _ _ | with_reducible assumption | with_reducible refine Below.drew ?_ | with_reducible refine below_drewN' ?_ _ | with_reducible refine Below.alloc ?_ ?_ _ | with_reducible refine Below.setCell ?_ ?_ _ | with_reducible refine below_step (by assumption) ?_ ?_ | omega | (simp; done) | (simp; omega)))⟩
end Go.Proofs.Ytaipiflbigpniaa
