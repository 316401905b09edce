/-
  A state's own lists are stored to; the contract of permit.State.grow.
-/
import Derived.Test.YtmkdfcggjlhcpaaPe7
namespace Go.Proofs.Ytmkdfcggjlhcpaa
open Go.RowKit
set_option linter.unusedVariables false
set_option linter.unusedSimpArgs false

theorem own_blk {w : World} {B n c k : Nat} {a : Option Addr} {e : TypeId} {xs : List Value} (h : w.ownsRow B e k (.slice a n c) n xs) (hn : 0 < n) : ∃ z, a = some ⟨z, 0, none⟩ ∧ B ≤ z ∧ z < w.heap.size := by
  rcases h.2 with ⟨h1, h2⟩ | ⟨g, cap, cur, h1, h2⟩
  · omega
  · injection h1 with h1 _ _
    exact ⟨g, h1, own_lt h (by rw [h1]; rfl)⟩
theorem SOwn.tset {B : Nat} {s : St} {w : World} (h : SOwn B s w) {z j : Nat} {t : Int} (hz : s.ta = some ⟨z, 0, none⟩) (ht : s.T[j]? = some t) (v : Int) :
    SOwn B { s with T := s.T.set j v } (w.setCell ⟨z, j, none⟩ (.int .i64 v)) := by
  have hT := h.t
  unfold OwnL at hT
  rw [hz] at hT
  have tp := own_ty hT rfl
  have N : ∀ {q : Nat} {ty : TypeId}, TyAt w q ty → ty ≠ 3 → q ≠ z := fun hq hy => hq.ne tp hy
  refine ⟨own_same h.g fun q hq => Below.heap_setCell _ _ _ _ (N (own_ty h.g hq) (by decide)), fun m hm => ⟨own_same (h.m m hm).l fun q hq => Below.heap_setCell _ _ _ _ (N (own_ty (h.m m hm).l hq) (by decide)), own_same (h.m m hm).t fun q hq => Below.heap_setCell _ _ _ _ (N (own_ty (h.m m hm).t hq) (by decide))⟩, ?_, own_same h.i fun q hq => Below.heap_setCell _ _ _ _ (N (own_ty h.i hq) (by decide)), own_same h.r fun q hq => Below.heap_setCell _ _ _ _ (N (own_ty h.r hq) (by decide))⟩
  have h9 := (hT.stored (j * 1 + 0) (.int .i64 v)).1
  rw [flat_set pcs_len s.T j t v 0 (.int .i64 v) ht (by decide) rfl] at h9
  unfold OwnL
  dsimp only
  rw [hz, List.length_set]
  simpa using h9
theorem SOwn.iset {B : Nat} {s : St} {w : World} (h : SOwn B s w) {z k r : Nat} {x y : Ins} {v : Value} (hz : s.ia = some ⟨z, 0, none⟩) (hx : s.L[k]? = some x) (hr : r < 5) (e : irow y = (irow x).set r v) :
    SOwn B { s with L := s.L.set k y } (w.setCell ⟨z, k * 5 + r, none⟩ v) := by
  have hL := h.i
  unfold OwnL at hL
  rw [hz] at hL
  have tp := own_ty hL rfl
  have N : ∀ {q : Nat} {ty : TypeId}, TyAt w q ty → ty ≠ 51 → q ≠ z := fun hq hy => hq.ne tp hy
  refine ⟨own_same h.g fun q hq => Below.heap_setCell _ _ _ _ (N (own_ty h.g hq) (by decide)), fun m hm => ⟨own_same (h.m m hm).l fun q hq => Below.heap_setCell _ _ _ _ (N (own_ty (h.m m hm).l hq) (by decide)), own_same (h.m m hm).t fun q hq => Below.heap_setCell _ _ _ _ (N (own_ty (h.m m hm).t hq) (by decide))⟩, own_same h.t fun q hq => Below.heap_setCell _ _ _ _ (N (own_ty h.t hq) (by decide)), ?_, own_same h.r fun q hq => Below.heap_setCell _ _ _ _ (N (own_ty h.r hq) (by decide))⟩
  have h9 := (hL.stored (k * 5 + r) v).1
  rw [flat_set irow_len s.L k x y r v hx hr e] at h9
  unfold OwnL
  dsimp only
  rw [hz, List.length_set]
  exact h9

set_option maxRecDepth 100000 in
set_option maxHeartbeats 4000000 in
theorem grow_any (s : St) (B j : Nat) (t n : Int) (w : World) (h : SOwn B s w) (hB : B ≤ w.heap.size) (ht : s.T[j]? = some t) (h0 : -9223372036854775808 ≤ t + n) (h1 : t + n < 9223372036854775808) (hT : s.T.length ≤ 1000) :
    Calls Try.prog 17 #[.agg #[.slice s.ga s.C.length s.gk, .slice s.ta s.T.length s.tk, .slice s.ia s.L.length s.ik, .int .i64 s.c0, .int .i64 s.c1, .int .i64 s.c2, .slice s.ra s.R.length s.rk, .int .i64 s.un, .int .i64 s.sh], .int .i64 (j : Int), .int .i64 n] w fun e w' => e = .returned (.tuple #[]) ∧ SOwn B { s with T := s.T.set j (t + n) } w' ∧ ∃ z, s.ta = some ⟨z, 0, none⟩ ∧ B ≤ z ∧ Only [z] w w' := by
  have hlt := lt_at ht
  obtain ⟨z, hz, hBz, hzw⟩ := own_blk h.t (by omega)
  obtain ⟨a0, k0, e0, -, hR⟩ := OwnL.isL pcs_len (by decide) h.t
  injection e0 with e0 e1 e2
  clear e1 e2
  subst e0
  obtain ⟨b, off, hb, hbw, hc⟩ := hR (by omega)
  rw [hz] at hb
  obtain ⟨rfl, rfl⟩ : z = b ∧ 0 = off := by injection hb with hb; injection hb with h1 h2; exact ⟨h1, h2⟩
  have d0 := int_cell (hc j t ht)
  have hT2 := h.t
  unfold OwnL at hT2
  rw [hz] at hT2
  have hfz := hT2.frozenAt j
  have H := Lib.hid h
  have HS := Lib.hid (fun (o : Obj) (v : Int) => (h.tset hz ht v).mono (((Below.refl _ (w.setCell ⟨z, j, none⟩ (.int .i64 v)))).alloc (Nat.le_refl _) o))
  have k1 : IntKind.i64.wrap (t + n) = t + n := wrap_in h0 h1
  have Hz := Lib.hid hz
  rw [Nat.mul_one, Nat.zero_add] at d0
  clear h ht hR hc hb hT2
  obtain ⟨ga, C, gk, ta, T, tk, ia, L, ik, z0, z1, z2, ra, R, rk, un, sh⟩ := s
  dsimp only at H HS Hz hz hlt hT ⊢
  subst hz
  obtain ⟨M, hM⟩ : ∃ M, T.length = M := ⟨_, rfl⟩
  rw [hM] at hlt hT ⊢
  clear hM
  go_enter Try.func17, Try.ntmps17
  go_wp2
  go_end0
  have hon := ((Only.refl [z] w).setCell (p := ⟨z, j, none⟩) (.inl (List.mem_singleton.2 rfl)) (.int .i64 (t + n))).alloc (Obj.cells #[.slice ga C.length gk, .slice (some ⟨z, 0, none⟩) M tk, .slice ia L.length ik, .int .i64 z0, .int .i64 z1, .int .i64 z2, .slice ra R.length rk, .int .i64 un, .int .i64 sh] 33)
  exact ⟨rfl, HS.out _ (t + n), by first | exact ⟨z, rfl, hBz, hon⟩ | exact ⟨hBz, hon⟩ | exact hon⟩
end Go.Proofs.Ytmkdfcggjlhcpaa
