/-
  A provider that stands in memory, beside blocks that are not its own: what each call answers, and keeps.
-/
import Derived.Test.YtcfdejlbchdciaaGreatDoorClI
import Derived.Test.YtcfdejlbchdciaaGreatDoorClY
namespace Go.Proofs.YtcfdejlbchdciaaGreatDoor
open Go.RowKit
set_option linter.unusedVariables false
set_option linter.unusedSimpArgs false

structure Prov (w0 : World) (b : Nat) (s : CS) (m : Nat) (F : List Nat) (w : World) : Prop where
  ex : ∃ G gv pv lv, CT w w0.heap.size b G s gv pv lv ∧ GL G ∧ ∀ z ∈ F, z < w.heap.size ∧ z ∉ blocksOf b pv lv
  bl : Below w0.heap.size w0 w
  ok : s.Ok m
def Kept (F : List Nat) (w w' : World) : Prop := w.heap.size ≤ w'.heap.size ∧ ∀ z ∈ F, w'.heap[z]? = w.heap[z]?
section
variable {w0 w w' : World} {b m : Nat} {s s' : CS} {F : List Nat}
theorem Prov.below (h : Prov w0 b s m F w) (hb : Below w.heap.size w w') : Prov w0 b s m F w' := by
  obtain ⟨⟨G, gv, pv, lv, h1, h2, h3⟩, h4, h5⟩ := h
  exact ⟨⟨G, gv, pv, lv, h1.below hb, h2, fun z hz => ⟨Nat.lt_of_lt_of_le (h3 z hz).1 hb.size, (h3 z hz).2⟩⟩, h4.trans (hb.mono h4.size), h5⟩
theorem Prov.up (h : Prov w0 b s m F w) {n : Nat} (hn : m ≤ n) : Prov w0 b s n F w := ⟨h.ex, h.bl, h.ok.up hn⟩
theorem Prov.sub (h : Prov w0 b s m F w) {F' : List Nat} (hF : ∀ z ∈ F', z ∈ F) : Prov w0 b s m F' w := by
  obtain ⟨⟨G, gv, pv, lv, h1, h2, h3⟩, h4, h5⟩ := h
  exact ⟨⟨G, gv, pv, lv, h1, h2, fun z hz => h3 z (hF z hz)⟩, h4, h5⟩
/-- New blocks, made beside it. -/
theorem Prov.add (h : Prov w0 b s m F w) (hb : Below w.heap.size w w') {F' : List Nat} (hF : ∀ z ∈ F', w.heap.size ≤ z ∧ z < w'.heap.size) : Prov w0 b s m (F' ++ F) w' := by
  have h9 := h.below hb
  obtain ⟨⟨G, gv, pv, lv, h1, h2, h3⟩, h4, h5⟩ := h
  refine ⟨⟨G, gv, pv, lv, h1.below hb, h2, fun z hz => ?_⟩, h9.bl, h5⟩
  rcases List.mem_append.1 hz with hz | hz
  · refine ⟨(hF z hz).2, fun hm => ?_⟩
    have := (h1.blocks z hm).2
    have := (hF z hz).1
    omega
  · exact ⟨Nat.lt_of_lt_of_le (h3 z hz).1 hb.size, (h3 z hz).2⟩
/-- A store to a block that is not its own. -/
theorem Prov.setCell (h : Prov w0 b s m F w) {z : Nat} (hz : z ∈ F) (h0 : w0.heap.size ≤ z) (i : Nat) (v : Value) (hm : ∀ (G : List Gp) (gv pv lv : Value), CT w w0.heap.size b G s gv pv lv → CT (w.setCell ⟨z, i, none⟩ v) w0.heap.size b G s gv pv lv) : Prov w0 b s m F (w.setCell ⟨z, i, none⟩ v) := by
  obtain ⟨⟨G, gv, pv, lv, h1, h2, h3⟩, h4, h5⟩ := h
  refine ⟨⟨G, gv, pv, lv, hm _ _ _ _ h1, h2, fun y hy => ⟨by rw [World.size_setCell]; exact (h3 y hy).1, (h3 y hy).2⟩⟩, h4.setCell h0 _, h5⟩
theorem Kept.refl : Kept F w w := ⟨Nat.le_refl _, fun _ _ => rfl⟩
theorem Kept.trans {w2 : World} (h : Kept F w w') (h' : Kept F w' w2) : Kept F w w2 := ⟨Nat.le_trans h.1 h'.1, fun z hz => (h'.2 z hz).trans (h.2 z hz)⟩
theorem Kept.below (h : Prov w0 b s m F w) (hb : Below w.heap.size w w') : Kept F w w' := by
  obtain ⟨⟨G, gv, pv, lv, h1, h2, h3⟩, h4, h5⟩ := h
  exact ⟨hb.size, fun z hz => hb.block z (h3 z hz).1⟩
theorem Kept.own (h : Kept F w w') {B : Nat} {v : Value} {n k : Nat} {e : TypeId} {xs : List Value} (ho : w.ownsRow B e k v n xs) (hv : ∀ z, v.ownBlock = some z → z ∈ F) : w'.ownsRow B e k v n xs := own_same ho fun g e => h.2 g (hv g e)
theorem Prov.run {G : List Gp} {gv pv lv : Value} (h1 : CT w w0.heap.size b G s gv pv lv) (h2 : GL G) (h3 : ∀ z ∈ F, z < w.heap.size ∧ z ∉ blocksOf b pv lv) (h4 : Below w0.heap.size w0 w) {m' : Nat} (ok : s'.Ok m')
    (hr : ∃ lv', CT w' w0.heap.size b G s' gv pv lv' ∧ Only (blocksOf b pv lv) w w' ∧ NewB w.heap.size lv lv') : Prov w0 b s' m' F w' ∧ Kept F w w' := by
  obtain ⟨lv', r1, r2, r3⟩ := hr
  refine ⟨⟨⟨G, gv, pv, lv', r1, h2, fun z hz => ⟨Nat.lt_of_lt_of_le (h3 z hz).1 r2.size, fun hm => ?_⟩⟩, r2.below h4 h4.size fun k hk => (h1.blocks k hk).1, ok⟩, ⟨r2.size, fun z hz => r2.block z (h3 z hz).1 (h3 z hz).2⟩⟩
  have h5 := (h3 z hz).2
  unfold blocksOf at hm h5
  rcases List.mem_cons.1 hm with e | hm
  · exact h5 (by rw [e]; simp)
  · rcases List.mem_append.1 hm with hm | hm
    · exact h5 (List.mem_cons_of_mem _ (List.mem_append.2 (.inl hm)))
    · rcases r3 z (by simpa using hm) with h6 | h6
      · exact h5 (List.mem_cons_of_mem _ (List.mem_append.2 (.inr (by simpa using h6))))
      · have := (h3 z hz).1
        omega
theorem Prov.g16 (h : Prov w0 b s m F w) {G : List Gp} {gv pv lv : Value} (h1 : CT w w0.heap.size b G s gv pv lv) : G.length ≤ 1000 := by
  have h2 : G.length = s.G.length := by rw [← h1.gk, List.length_map]
  have := h.ok.g16
  omega
theorem Prov.l6 (h : Prov w0 b s m F w) (hm : m ≤ 100) : s.L.length ≤ 1000000 := by
  have := h.ok.lb
  omega
end
theorem pv_inc (w0 : World) (b m : Nat) (s : CS) (F : List Nat) (w : World) (h : Prov w0 b s m F w) (hm : m ≤ 100) (hT : Tab10 w0) (key : ByteArray) (n : Int) (hn0 : -9223372036854775808 ≤ n) (hn1 : n ≤ 9223372036854775807) :
    Calls Tryz.prog 13 #[.pointer (some ⟨b, 0, none⟩), .string key, .int .i64 n] w fun e w' => e = .returned (.int .i64 (s.inc key n).2) ∧ Prov w0 b (s.inc key n).1 (m + 1) F w' ∧ Kept F w w' := by
  obtain ⟨⟨G, gv, pv, lv, h1, h2, h3⟩, h4, h5⟩ := h
  refine (incr_any b G s gv pv lv key n w0 w h1 h4 hT m h5 hm h2 hn0 hn1).mono ?_
  rintro e w' ⟨rfl, hr⟩
  exact ⟨rfl, Prov.run h1 h2 h3 h4 (h5.inc key n) hr⟩
theorem pv_del (w0 : World) (b m : Nat) (s : CS) (F : List Nat) (w : World) (h : Prov w0 b s m F w) (hm : m ≤ 100) (key : ByteArray) :
    Calls Tryz.prog 15 #[.pointer (some ⟨b, 0, none⟩), .string key] w fun e w' => e = .returned (.int .i64 (s.del key).2) ∧ Prov w0 b (s.del key).1 (m + 1) F w' ∧ Kept F w w' := by
  obtain ⟨⟨G, gv, pv, lv, h1, h2, h3⟩, h4, h5⟩ := h
  refine (del_any w0.heap.size b G s gv pv lv key w h1 m h5 hm).mono ?_
  rintro e w' ⟨rfl, hr⟩
  exact ⟨rfl, Prov.run h1 h2 h3 h4 (h5.del key) ⟨lv, hr.1, hr.2, .refl⟩⟩
theorem pv_dec (w0 : World) (b m : Nat) (s : CS) (F : List Nat) (w : World) (h : Prov w0 b s m F w) (hm : m ≤ 100) (key : ByteArray) (n : Int) (hn0 : -9223372036854775808 ≤ n) (hn1 : n ≤ 9223372036854775807) :
    Calls Tryz.prog 19 #[.pointer (some ⟨b, 0, none⟩), .string key, .int .i64 n] w fun e w' => e = .returned (.int .i64 (s.dec key n).2) ∧ Prov w0 b (s.dec key n).1 (m + 1) F w' ∧ Kept F w w' := by
  obtain ⟨⟨G, gv, pv, lv, h1, h2, h3⟩, h4, h5⟩ := h
  refine (decr_any w0.heap.size b G s gv pv lv key n w h1 m h5 hm hn0 hn1).mono ?_
  rintro e w' ⟨rfl, hr⟩
  exact ⟨rfl, Prov.run h1 h2 h3 h4 (h5.dec key n) ⟨lv, hr.1, hr.2.mono (fun k hk => by unfold blocksOf; rcases List.mem_cons.1 hk with e | hk; (rw [e]; simp); exact List.mem_cons_of_mem _ (List.mem_append.2 (.inl hk))), .refl⟩⟩
theorem pv_brk (w0 : World) (b m : Nat) (s : CS) (F : List Nat) (w : World) (h : Prov w0 b s m F w) (hm : m ≤ 100) (key : ByteArray) (is : Bool) :
    Calls Tryz.prog 28 #[.pointer (some ⟨b, 0, none⟩), .string key, .bool is] w fun e w' => e = .returned (.int .i64 (s.brk key is).2) ∧ Prov w0 b (s.brk key is).1 (m + 1) F w' ∧ Kept F w w' := by
  have h9 := h
  obtain ⟨⟨G, gv, pv, lv, h1, h2, h3⟩, h4, h5⟩ := h
  refine (brk_any w0.heap.size b G s gv pv lv key is w h1 (h9.g16 h1) h5.ln).mono ?_
  rintro e w' ⟨rfl, hr⟩
  exact ⟨rfl, Prov.run h1 h2 h3 h4 ((h5.brk key is).up (Nat.le_succ m)) ⟨lv, hr.1, hr.2.mono (fun k hk => by unfold blocksOf; exact List.mem_cons_of_mem _ (List.mem_append.2 (.inl hk))), .refl⟩⟩
theorem pv_fail (w0 : World) (b m : Nat) (s : CS) (F : List Nat) (w : World) (h : Prov w0 b s m F w) (hm : m ≤ 100) (key : ByteArray) :
    Calls Tryz.prog 30 #[.pointer (some ⟨b, 0, none⟩), .string key] w fun e w' => e = .returned (.int .i64 (s.fail key).2) ∧ Prov w0 b (s.fail key).1 (m + 1) F w' ∧ Kept F w w' := by
  have h9 := h
  obtain ⟨⟨G, gv, pv, lv, h1, h2, h3⟩, h4, h5⟩ := h
  refine (fail_any w0.heap.size b G s gv pv lv key w h1 (h9.l6 hm)).mono ?_
  rintro e w' ⟨rfl, hr⟩
  exact ⟨rfl, Prov.run h1 h2 h3 h4 ((h5.fail key).up (Nat.le_succ m)) ⟨lv, hr.1, hr.2.mono (fun k hk => by unfold blocksOf; exact List.mem_cons_of_mem _ (List.mem_append.2 (.inr hk))), .refl⟩⟩
theorem pv_tick (w0 : World) (b m : Nat) (s : CS) (F : List Nat) (w : World) (h : Prov w0 b s m F w) (hm : m ≤ 100) :
    Calls Tryz.prog 14 #[.pointer (some ⟨b, 0, none⟩)] w fun e w' => e = .returned (.tuple #[]) ∧ Prov w0 b s.tick (m + 1) F w' ∧ Kept F w w' := by
  obtain ⟨⟨G, gv, pv, lv, h1, h2, h3⟩, h4, h5⟩ := h
  refine (tick_any w0.heap.size b G s gv pv lv w h1 m h5 hm).mono ?_
  rintro e w' ⟨rfl, hr⟩
  exact ⟨rfl, Prov.run h1 h2 h3 h4 h5.tick hr⟩
theorem pv_insts (w0 : World) (b m : Nat) (s : CS) (F : List Nat) (w : World) (h : Prov w0 b s m F w) (hm : m ≤ 100) :
    Calls Tryz.prog 10 #[.pointer (some ⟨b, 0, none⟩)] w (Gives w (OwnL irow 5 w.heap.size 41 s.L)) := by
  have h9 := h
  obtain ⟨⟨G, gv, pv, lv, h1, h2, h3⟩, h4, h5⟩ := h
  exact insts_any w0.heap.size b G s gv pv lv w h1 (h9.l6 hm)
theorem pv_now (w0 : World) (b m : Nat) (s : CS) (F : List Nat) (w : World) (h : Prov w0 b s m F w) :
    Calls Tryz.prog 17 #[.pointer (some ⟨b, 0, none⟩)] w fun e w' => e = .returned (.int .i64 s.nw) ∧ w' = w := by
  obtain ⟨⟨G, gv, pv, lv, h1, h2, h3⟩, h4, h5⟩ := h
  exact now_any w0.heap.size b G s gv pv lv w h1
theorem pv_calls (w0 : World) (b m : Nat) (s : CS) (F : List Nat) (w : World) (h : Prov w0 b s m F w) :
    Calls Tryz.prog 18 #[.pointer (some ⟨b, 0, none⟩)] w fun e w' => e = .returned (.int .i64 s.ca) ∧ w' = w := by
  obtain ⟨⟨G, gv, pv, lv, h1, h2, h3⟩, h4, h5⟩ := h
  exact calls_any w0.heap.size b G s gv pv lv w h1
theorem pv_tgt (w0 : World) (b m : Nat) (s : CS) (F : List Nat) (w : World) (h : Prov w0 b s m F w) (key : ByteArray) :
    Calls Tryz.prog 16 #[.pointer (some ⟨b, 0, none⟩), .string key] w fun e w' => e = .returned (.int .i64 (s.tgt key)) ∧ Below w.heap.size w w' := by
  have h9 := h
  obtain ⟨⟨G, gv, pv, lv, h1, h2, h3⟩, h4, h5⟩ := h
  exact target_any w0.heap.size b G s gv pv lv key w h1 (h9.g16 h1) h5.ln
end Go.Proofs.YtcfdejlbchdciaaGreatDoor
