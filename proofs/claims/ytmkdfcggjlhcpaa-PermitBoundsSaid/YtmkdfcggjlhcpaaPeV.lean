/-
  What After gives, for one outcome each; relations of a region that calls it.
-/
import Derived.Test.YtmkdfcggjlhcpaaPeB
import Derived.Test.YtmkdfcggjlhcpaaLate
namespace Go.Proofs.Ytmkdfcggjlhcpaa
open Go.RowKit
set_option linter.unusedVariables false
set_option linter.unusedSimpArgs false

theorem after_no {s : St} {what nm : ByteArray} {n z : Int} {w : World} (hI : StIn w s) (hO : StOk s) (hn0 : -9223372036854775808 ≤ n) (hn1 : n ≤ 9223372036854775807) (hz : whyP s what nm n (bX s nm n) = z) (h : z ≠ 0) :
    Calls Try.prog 7 #[.agg #[.slice s.ga s.C.length s.gk, .slice s.ta s.T.length s.tk, .slice s.ia s.L.length s.ik, .int .i64 s.c0, .int .i64 s.c1, .int .i64 s.c2, .slice s.ra s.R.length s.rk, .int .i64 s.un, .int .i64 s.sh], .agg #[.string what, .string nm, .int .i64 n]] w fun e w' => e = .returned (.tuple #[.agg #[.slice none 0 0, .slice none 0 0, .slice none 0 0, .int .i64 0, .int .i64 0, .int .i64 0, .slice none 0 0, .int .i64 0, .int .i64 0], .int .i64 z]) ∧ Below w.heap.size w w' := by
  refine (after_any s what nm n w hI hO hn0 hn1).mono ?_
  rintro e w' ⟨⟨b, rfl, ⟨y, hy, h1, rfl⟩ | ⟨h0, -⟩⟩, hB⟩
  · rw [hz] at h1
    subst h1
    exact ⟨rfl, hB⟩
  · rw [hz] at h0
    exact absurd h0 h
theorem after_yes {s : St} {what nm : ByteArray} {n : Int} {w : World} (hI : StIn w s) (hO : StOk s) (hn0 : -9223372036854775808 ≤ n) (hn1 : n ≤ 9223372036854775807) (hz : whyP s what nm n (bX s nm n) = 0) :
    Calls Try.prog 7 #[.agg #[.slice s.ga s.C.length s.gk, .slice s.ta s.T.length s.tk, .slice s.ia s.L.length s.ik, .int .i64 s.c0, .int .i64 s.c1, .int .i64 s.c2, .slice s.ra s.R.length s.rk, .int .i64 s.un, .int .i64 s.sh], .agg #[.string what, .string nm, .int .i64 n]] w fun e w' => (∃ s', e = .returned (.tuple #[.agg #[.slice s'.ga s'.C.length s'.gk, .slice s'.ta s'.T.length s'.tk, .slice s'.ia s'.L.length s'.ik, .int .i64 s'.c0, .int .i64 s'.c1, .int .i64 s'.c2, .slice s'.ra s'.R.length s'.rk, .int .i64 s'.un, .int .i64 s'.sh], .int .i64 0]) ∧ SOwn w.heap.size s' w' ∧ PAl (aft s what nm n) s') ∧ Below w.heap.size w w' := by
  refine (after_any s what nm n w hI hO hn0 hn1).mono ?_
  rintro e w' ⟨⟨b, rfl, ⟨y, hy, h1, -⟩ | ⟨h0, s', rfl, h2, h3⟩⟩, hB⟩
  · rw [hz] at h1
    exact absurd h1.symm hy
  · exact ⟨⟨s', rfl, h2, h3⟩, hB⟩
theorem SOwn.apart {B : Nat} {s : St} {w w' : World} {X : Nat} {cs : List Value} (h : SOwn B s w) (hb : Blk w X 33 cs) (ho : Only [X] w w') : SOwn B s w' := by
  have tb := blk_ty hb
  have N : ∀ {v : Value} {n k : Nat} {e : TypeId} {xs : List Value}, w.ownsRow B e k v n xs → e ≠ 33 → w'.ownsRow B e k v n xs := fun h he =>
    own_same h fun g eg => ho.block g (own_lt h eg).2 (by rw [List.mem_singleton]; exact (own_ty h eg).ne tb he)
  exact ⟨N h.g (by decide), fun x hx => ⟨N (h.m x hx).l (by decide), N (h.m x hx).t (by decide)⟩, N h.t (by decide), N h.i (by decide), N h.r (by decide)⟩
def NewS (N : Nat) (u : Value) (w : World) : Prop := ∃ X, u = .pointer (some ⟨X, 0, none⟩) ∧ N ≤ X ∧ Blk w X 33 [.slice none 0 0, .slice none 0 0, .slice none 0 0, .int .i64 0, .int .i64 0, .int .i64 0, .slice none 0 0, .int .i64 0, .int .i64 0]
theorem NewS.mk {W : World} (n : Held W) : NewS W.heap.size (.pointer (some ⟨n.w.heap.size, 0, none⟩)) (n.w.alloc (.cells #[.slice none 0 0, .slice none 0 0, .slice none 0 0, .int .i64 0, .int .i64 0, .int .i64 0, .slice none 0 0, .int .i64 0, .int .i64 0] 33)) := ⟨_, rfl, n.below.size, Blk.new _ 33 [.slice none 0 0, .slice none 0 0, .slice none 0 0, .int .i64 0, .int .i64 0, .int .i64 0, .slice none 0 0, .int .i64 0, .int .i64 0]⟩
theorem NewS.stays (N : Nat) : Stays (NewS N) := fun v w w' hb ⟨X, e, h, hB⟩ => ⟨X, e, h, hB.below hb⟩
def RA (N : Nat) (s : St) (v : Value) (w : World) : Prop := ∃ s' : St, v = .tuple #[.agg #[.slice s'.ga s'.C.length s'.gk, .slice s'.ta s'.T.length s'.tk, .slice s'.ia s'.L.length s'.ik, .int .i64 s'.c0, .int .i64 s'.c1, .int .i64 s'.c2, .slice s'.ra s'.R.length s'.rk, .int .i64 s'.un, .int .i64 s'.sh], .int .i64 0] ∧ SOwn N s' w ∧ PAl s s'
theorem RA.stays (N : Nat) (s : St) : Stays (RA N s) := fun v w w' hb ⟨X, e, h, hB⟩ => ⟨X, e, h.mono hb, hB⟩
def RE (N : Nat) (s : St) (v : Value) (w : World) : Prop := ∃ s' : St, v = (.agg #[.slice s'.ga s'.C.length s'.gk, .slice s'.ta s'.T.length s'.tk, .slice s'.ia s'.L.length s'.ik, .int .i64 s'.c0, .int .i64 s'.c1, .int .i64 s'.c2, .slice s'.ra s'.R.length s'.rk, .int .i64 s'.un, .int .i64 s'.sh]) ∧ SOwn N s' w ∧ PAl s s'
theorem RE.stays (N : Nat) (s : St) : Stays (RE N s) := fun v w w' hb ⟨X, e, h, hB⟩ => ⟨X, e, h.mono hb, hB⟩
def RO (v : Value) (_ : World) : Prop := v = .int .i64 0
theorem RO.stays : Stays RO := fun _ _ _ _ h => h
end Go.Proofs.Ytmkdfcggjlhcpaa
