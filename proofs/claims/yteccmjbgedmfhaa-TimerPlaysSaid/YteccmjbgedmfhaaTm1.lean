/-
  The table of layer 27: what it holds; made, rightTime, with, New, Since, Drop.
-/
import Derived.Test.YteccmjbgedmfhaaMap
import Derived.Test.YteccmjbgedmfhaaOnly
import Derived.Test.YteccmjbgedmfhaaLst
import Derived.Test.YteccmjbgedmfhaaTail
import Derived.LaidEqlPtr
namespace Go.Proofs.Yteccmjbgedmfhaa
open Go.RowKit
set_option linter.unusedVariables false
set_option linter.unusedSimpArgs false

theorem wrap_in {x : Int} (h : -9223372036854775808 ≤ x) (h' : x < 9223372036854775808) : IntKind.i64.wrap x = x := by simp [IntKind.wrap, IntKind.bits, IntKind.signed]; omega
abbrev iv (x : Int) : Value := .int .i64 x
def tcells (b m : Nat) : List Value := [.pointer (some ⟨b, 0, none⟩), .map (some m)]
/-- A table that New or Copy returned. -/
structure TB (w : World) (b m : Nat) (T : ByteArray → Option Int) (n : Nat) : Prop where
  row : Blk w b 46 (tcells b m)
  mp : MapIs Try.prog 9 w m n (fun s => (T s).map iv)
  ok : ∀ s x, T s = some x → 0 ≤ x ∧ x ≤ 1099511627776
theorem TB.ne {w : World} {b m : Nat} {T : ByteArray → Option Int} {n : Nat} (h : TB w b m T n) : b ≠ m := fun e => by
  have h1 := h.row
  obtain ⟨D, ⟨es, clock, hb, _⟩, _⟩ := h.mp
  unfold Blk at h1
  rw [e, hb] at h1
  cases h1
theorem TB.only {w w' : World} {b m : Nat} {T : ByteArray → Option Int} {n : Nat} {S : List Nat} (h : TB w b m T n) (ho : Only S w w') (hb : b ∉ S) (hm : m ∉ S) : TB w' b m T n :=
  ⟨h.row.only ho hb, h.mp.same (ho.block m h.mp.lt hm), h.ok⟩
theorem TB.below {w w' : World} {b m : Nat} {T : ByteArray → Option Int} {n : Nat} (h : TB w b m T n) (hb : Below w.heap.size w w') : TB w' b m T n := h.only (Only.of_below (S := []) hb) (by simp) (by simp)
theorem TB.mono {w : World} {b m : Nat} {T : ByteArray → Option Int} {n k : Nat} (h : TB w b m T n) (hk : n ≤ k) : TB w b m T k := ⟨h.row, h.mp.mono hk, h.ok⟩
theorem TB.eq {w : World} {b m : Nat} {T U : ByteArray → Option Int} {n : Nat} (h : TB w b m T n) (e : ∀ s, T s = U s) : TB w b m U n := by
  have : T = U := funext e
  exact this ▸ h
theorem TB.cells {w : World} {b m : Nat} {T : ByteArray → Option Int} {n : Nat} (h : TB w b m T n) :
    w.cell? ⟨b, 0, none⟩ = some (.pointer (some ⟨b, 0, none⟩)) ∧ w.cell? ⟨b, 1, none⟩ = some (.map (some m)) :=
  ⟨h.row.cell 0, h.row.cell 1⟩
def updT (T : ByteArray → Option Int) (g : ByteArray) (x : Option Int) : ByteArray → Option Int := fun s => if s = g then x else T s
theorem upd_map (T : ByteArray → Option Int) (g : ByteArray) (x : Option Int) (s : ByteArray) : updF (fun s => (T s).map iv) g (x.map iv) s = (updT T g x s).map iv := by
  unfold updF updT
  split <;> rfl
theorem updT_same (T : ByteArray → Option Int) (g : ByteArray) (x : Option Int) : updT T g x g = x := if_pos rfl
theorem updT_other {T : ByteArray → Option Int} {g s : ByteArray} {x : Option Int} (h : s ≠ g) : updT T g x s = T s := if_neg h

theorem info_tab : Try.prog.info? 46 = some ((Try.prog.info? 46).getD default) := by kernel_rfl
theorem made_yes (b : Nat) (w : World) (c0 : w.cell? ⟨b, 0, none⟩ = some (.pointer (some ⟨b, 0, none⟩))) :
    Calls Try.prog 23 #[.pointer (some ⟨b, 0, none⟩)] w fun e w' => e = .returned (.bool true) ∧ w' = w := by
  have hq := run_eql_ptr_same (P := Try.prog) w ⟨b, 0, none⟩ Try.underlying23 info_tab
  go_enter Try.func23, Try.ntmps23
  go_wp2
  go_ret
  exact ⟨rfl, rfl⟩
theorem made_nil (w : World) : Calls Try.prog 23 #[.pointer none] w fun e w' => e = .returned (.bool false) ∧ w' = w := by
  go_enter Try.func23, Try.ntmps23
  go_wp2
  go_ret
  exact ⟨rfl, rfl⟩
theorem eql_nil_ptr {P : Program} (w : World) (t : TypeId) (a : Addr) (h : P.underlying t = some (.pointer (P.pointee t))) :
    (binOp .eql t (.pointer none) (.pointer (some a))).run P w = .ok (.bool false) w := by
  have h1 : ∀ d : Nat, (Op.equalIn (d + 1) t (.pointer none) (.pointer (some a))).run P w = .ok false w := fun d => by simp [Op.equalIn, run_underlying h]
  simp only [binOp]
  simp [Op.equal, Op.maxDepth, h1 9999]
theorem made_zero (b : Nat) (w : World) (c0 : w.cell? ⟨b, 0, none⟩ = some (.pointer none)) :
    Calls Try.prog 23 #[.pointer (some ⟨b, 0, none⟩)] w fun e w' => e = .returned (.bool false) ∧ w' = w := by
  have hq := eql_nil_ptr (P := Try.prog) w 23 ⟨b, 0, none⟩ (by kernel_rfl)
  go_enter Try.func23, Try.ntmps23
  go_wp2
  go_ret
  exact ⟨rfl, rfl⟩
def timeB (n : Int) : Bool := decide (0 ≤ n ∧ n ≤ 1099511627776)
theorem time_any (n : Int) (w : World) : Calls Try.prog 24 #[.int .i64 n] w fun e w' => e = .returned (.bool (timeB n)) ∧ w' = w := by
  by_cases h : 0 ≤ n
  · go_enter Try.func24, Try.ntmps24
    go_wp2
    go_ret
    exact ⟨by simp [timeB, h], rfl⟩
  · have h1 : decide (0 ≤ n) = false := decide_eq_false h
    have h2 : timeB n = false := decide_eq_false (fun e => h e.1)
    rw [h2]
    clear h2 h
    go_enter Try.func24, Try.ntmps24
    go_wp2
    go_ret
    exact ⟨rfl, rfl⟩
theorem zero_int (w : World) : (zeroValue 3).run Try.prog w = .ok (.int .i64 0) w := by kernel_rfl
theorem law_str : Go.Maps.Keyed Try.prog 9 := Go.Maps.string_keyed Try.underlying9

set_option maxRecDepth 100000 in
/-- with, over a map that is there. -/
theorem with_any (m : Nat) (T : ByteArray → Option Int) (n : Nat) (w : World) (hm : MapIs Try.prog 9 w m n (fun s => (T s).map iv)) (ok : ∀ s x, T s = some x → 0 ≤ x ∧ x ≤ 1099511627776) :
    Calls Try.prog 22 #[.map (some m)] w fun e w' => e = .returned (.pointer (some ⟨w.heap.size, 0, none⟩)) ∧ TB w' w.heap.size m T n ∧ Below w.heap.size w w' := by
  have HM := Lib.hid hm
  clear hm
  go_enter Try.func22, Try.ntmps22
  go_wp2
  go_ret
  refine ⟨rfl, ⟨Blk.new w 46 (tcells w.heap.size m), ?_, ok⟩, by (repeat' (first | with_reducible exact Below.refl _ _ | with_reducible assumption | with_reducible refine Below.drew ?_ | with_reducible refine below_drewN' ?_ _ | with_reducible refine Below.alloc ?_ ?_ _ | with_reducible refine Below.setCell ?_ ?_ _ | with_reducible refine below_step (by assumption) ?_ ?_ | omega | (simp; done) | (simp; omega)))⟩
  · exact HM.out.below (by (repeat' (first | with_reducible exact Below.refl _ _ | with_reducible assumption | with_reducible refine Below.drew ?_ | with_reducible refine below_drewN' ?_ _ | with_reducible refine Below.alloc ?_ ?_ _ | with_reducible refine Below.setCell ?_ ?_ _ | with_reducible refine below_step (by assumption) ?_ ?_ | omega | (simp; done) | (simp; omega))))
theorem new_any (w : World) :
    Calls Try.prog 7 #[] w fun e w' => ∃ b m, e = .returned (.pointer (some ⟨b, 0, none⟩)) ∧ TB w' b m (fun _ => none) 0 ∧ w.heap.size ≤ b ∧ w.heap.size ≤ m ∧ Below w.heap.size w w' := by
  have hmm := @run_makeMap Try.prog
  have hW := with_any w.heap.size (fun _ => none) 0 (w.alloc (.map #[] 0)) (MapIs.made w Try.prog 9) (fun s x h => by cases h)
  go_enter Try.func7, Try.ntmps7
  go_wp2_with (go_at_call 22; (with_reducible refine hW.mono ?_); rintro e w1 ⟨rfl, hT, hb⟩)
  go_ret
  rw [World.size_alloc] at hT
  refine ⟨_, _, rfl, hT, by simp, Nat.le_refl _, ((Below.refl _ w).alloc (Nat.le_refl _) _).trans (hb.mono (by simp))⟩

def sinceV (o : Option Int) : Value := .tuple #[.int .i64 (o.getD 0), .bool o.isSome]
theorem since_any (b m : Nat) (T : ByteArray → Option Int) (n : Nat) (g : ByteArray) (w : World) (h : TB w b m T n) (hg : g.size ≤ maxLen) :
    Calls Try.prog 14 #[.pointer (some ⟨b, 0, none⟩), .string g] w fun e w' => e = .returned (sinceV (T g)) ∧ w' = w := by
  obtain ⟨c0, c1⟩ := h.cells
  have k1 := h.mp.look_ok law_str Try.underlying44 Try.underlying9 (zero_int _) hg
  have e1 : ((T g).map iv).getD (.int .i64 0) = .int .i64 ((T g).getD 0) := by cases T g <;> rfl
  have e2 : ((T g).map iv).isSome = (T g).isSome := by cases T g <;> rfl
  rw [e1, e2] at k1
  clear h e1 e2
  go_enter Try.func14, Try.ntmps14
  go_wp2_with (go_at_call 23; (with_reducible refine (made_yes b _ c0).mono ?_); rintro e w1 ⟨rfl, rfl⟩)
  go_ret2
  exact ⟨rfl, rfl⟩
theorem drop_any (b m : Nat) (T : ByteArray → Option Int) (n : Nat) (g : ByteArray) (w : World) (h : TB w b m T n) (hg : g.size ≤ maxLen) :
    Calls Try.prog 11 #[.pointer (some ⟨b, 0, none⟩), .string g] w fun e w' => e = .returned (.tuple #[]) ∧ TB w' b m (updT T g none) n ∧ Only [b, m] w w' := by
  obtain ⟨c0, c1⟩ := h.cells
  have Hh := Lib.hid h
  have hne := h.ne
  clear h
  go_enter Try.func11, Try.ntmps11
  go_wp2_with (first
    | (go_at_call 23; (with_reducible refine (made_yes b _ c0).mono ?_); rintro e w1 ⟨rfl, rfl⟩)
    | (at_delete; refine at_del rfl _ _ 44 9 3 rfl law_str Try.underlying44 Try.underlying9 Hh.out.mp rfl _ rfl hg ?_; intro w2 hm2 ht2; have HM2 := Lib.hid hm2; have HT2 := Lib.hid ht2; clear hm2 ht2))
  go_end0
  refine ⟨rfl, ⟨Hh.out.row.same (HT2.out.grown.block b Hh.out.row.lt (fun e => hne (Option.some.inj e))), HM2.out.eq (fun s => upd_map T g none s), fun s x hx => ?_⟩, (Only.refl _ _).grown HT2.out.grown (fun k e => .inl (by cases e; simp))⟩
  by_cases hs : s = g
  · subst hs
    rw [updT_same] at hx
    cases hx
  · rw [updT_other hs] at hx
    exact Hh.out.ok s x hx
end Go.Proofs.Yteccmjbgedmfhaa
