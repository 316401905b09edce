/-
  Both providers in memory, side by side: what each call of either keeps.
-/
import Derived.Test.YtcfdejlbchdciaaGreatDoorClX
import Derived.Test.YtcfdejlbchdciaaGreatDoorClRx
import Derived.Test.YtcfdejlbchdciaaGreatDoorClRk
import Derived.Test.YtcfdejlbchdciaaGreatDoorClRo
namespace Go.Proofs.YtcfdejlbchdciaaGreatDoor
open Go.RowKit
set_option linter.unusedVariables false
set_option linter.unusedSimpArgs false

section
variable {w w' : World} {base base' b : Nat} {G : List Gp} {s : CS} {gv pv lv : Value}
theorem CT.kept (h : CT w base b G s gv pv lv) (hk : ∀ z, base ≤ z → z < w.heap.size → w'.heap[z]? = w.heap[z]?) : CT w' base b G s gv pv lv :=
  ⟨h.row.same (hk b h.hb h.row.lt), own_same h.go fun g e => hk g (own_lt h.go e).1 (own_lt h.go e).2, own_same h.po fun g e => hk g (own_lt h.po e).1 (own_lt h.po e).2, own_same h.lo fun g e => hk g (own_lt h.lo e).1 (own_lt h.lo e).2,
    fun x hx => ⟨own_same (h.ms x hx).l fun g e => hk g (own_lt (h.ms x hx).l e).1 (own_lt (h.ms x hx).l e).2, own_same (h.ms x hx).t fun g e => hk g (own_lt (h.ms x hx).t e).1 (own_lt (h.ms x hx).t e).2⟩, h.gk, h.hb⟩
theorem CT.less (h : CT w base b G s gv pv lv) (hb : base' ≤ base) : CT w base' b G s gv pv lv :=
  ⟨h.row, OwnL.mono h.go hb, OwnL.mono h.po hb, OwnL.mono h.lo hb, fun x hx => (h.ms x hx).less hb, h.gk, Nat.le_trans hb h.hb⟩
end
theorem RT.kept {w0 w w' : World} {c : Nat} {ga : Option Addr} {gka : Nat} {Gr : List Gp} {s : CS} {tv lav bv lr : Value} (h : RT w0 w c ga gka Gr s tv lav bv lr) (hk : ∀ z ∈ rblocks c tv lav bv lr, w'.heap[z]? = w.heap[z]?) (hb : Below w0.heap.size w0 w') : RT w0 w' c ga gka Gr s tv lav bv lr := by
  have k1 : ∀ z, tv.ownBlock = some z → w'.heap[z]? = w.heap[z]? := fun z e => hk z (by unfold rblocks; simp [e])
  have k2 : ∀ z, lav.ownBlock = some z → w'.heap[z]? = w.heap[z]? := fun z e => hk z (by unfold rblocks; simp [e])
  have k3 : ∀ z, bv.ownBlock = some z → w'.heap[z]? = w.heap[z]? := fun z e => hk z (by unfold rblocks; simp [e])
  have k4 : ∀ z, lr.ownBlock = some z → w'.heap[z]? = w.heap[z]? := fun z e => hk z (by unfold rblocks; simp [e])
  exact ⟨h.row.same (hk c (by unfold rblocks; simp)), h.gl, own_same h.to k1, own_same h.la k2, own_same h.br k3, own_same h.lo k4, h.ne, h.gk, h.hb, hb⟩
/-- The program's provider and the document's, beside blocks that are neither's. -/
structure P2 (w0 : World) (b c : Nat) (ga : Option Addr) (gka : Nat) (Gr : List Gp) (s1 s2 : CS) (m n : Nat) (F : List Nat) (w : World) : Prop where
  ex : ∃ tv lav bv lr, RT w0 w c ga gka Gr s2 tv lav bv lr ∧ Prov w0 b s1 m (rblocks c tv lav bv lr ++ F) w ∧ ∀ z ∈ F, z ∉ rblocks c tv lav bv lr
  ok : s2.Ok n
section
variable {w0 w w' : World} {b c m n m' n' : Nat} {ga : Option Addr} {gka : Nat} {Gr : List Gp} {s s1 s2 : CS} {F : List Nat}
theorem P2.below (h : P2 w0 b c ga gka Gr s1 s2 m n F w) (hb : Below w.heap.size w w') : P2 w0 b c ga gka Gr s1 s2 m n F w' := by
  obtain ⟨⟨tv, lav, bv, lr, h1, h2, h3⟩, h4⟩ := h
  exact ⟨⟨tv, lav, bv, lr, h1.below hb, h2.below hb, h3⟩, h4⟩
theorem P2.bl (h : P2 w0 b c ga gka Gr s1 s2 m n F w) : Below w0.heap.size w0 w := by
  obtain ⟨⟨tv, lav, bv, lr, h1, h2, h3⟩, h4⟩ := h
  exact h1.bl
theorem P2.lts (h : P2 w0 b c ga gka Gr s1 s2 m n F w) : b < w.heap.size ∧ c < w.heap.size ∧ w0.heap.size ≤ b ∧ w0.heap.size ≤ c ∧ w0.heap.size ≤ w.heap.size := by
  obtain ⟨⟨tv, lav, bv, lr, h1, h2, h3⟩, h4⟩ := h
  obtain ⟨⟨G, gv, pv, lv, g1, g2, g3⟩, g4, g5⟩ := h2
  exact ⟨g1.row.lt, h1.row.lt, g1.hb, h1.hb, g4.size⟩
theorem P2.up (h : P2 w0 b c ga gka Gr s1 s2 m n F w) (hm : m ≤ m') (hn : n ≤ n') : P2 w0 b c ga gka Gr s1 s2 m' n' F w := by
  obtain ⟨⟨tv, lav, bv, lr, h1, h2, h3⟩, h4⟩ := h
  exact ⟨⟨tv, lav, bv, lr, h1, h2.up hm, h3⟩, h4.up hn⟩
theorem P2.ok1 (h : P2 w0 b c ga gka Gr s1 s2 m n F w) : s1.Ok m := by
  obtain ⟨⟨tv, lav, bv, lr, h1, h2, h3⟩, h4⟩ := h
  exact h2.ok
/-- New blocks, made beside them. -/
theorem P2.add (h : P2 w0 b c ga gka Gr s1 s2 m n F w) (hb : Below w.heap.size w w') {F' : List Nat} (hF : ∀ z ∈ F', w.heap.size ≤ z ∧ z < w'.heap.size) : P2 w0 b c ga gka Gr s1 s2 m n (F' ++ F) w' := by
  obtain ⟨⟨tv, lav, bv, lr, h1, h2, h3⟩, h4⟩ := h
  refine ⟨⟨tv, lav, bv, lr, h1.below hb, (h2.add hb hF).sub fun z hz => ?_, fun z hz hm => ?_⟩, h4⟩
  · rcases List.mem_append.1 hz with hz | hz
    · exact List.mem_append.2 (.inr (List.mem_append.2 (.inl hz)))
    · rcases List.mem_append.1 hz with hz | hz
      · exact List.mem_append.2 (.inl hz)
      · exact List.mem_append.2 (.inr (List.mem_append.2 (.inr hz)))
  · rcases List.mem_append.1 hz with hz | hz
    · have := (h1.blocks z hm).2
      have := (hF z hz).1
      omega
    · exact h3 z hz hm
theorem P2.drop (h : P2 w0 b c ga gka Gr s1 s2 m n F w) {F' : List Nat} (hF : ∀ z ∈ F', z ∈ F) : P2 w0 b c ga gka Gr s1 s2 m n F' w := by
  obtain ⟨⟨tv, lav, bv, lr, h1, h2, h3⟩, h4⟩ := h
  refine ⟨⟨tv, lav, bv, lr, h1, h2.sub fun z hz => ?_, fun z hz => h3 z (hF z hz)⟩, h4⟩
  rcases List.mem_append.1 hz with hz | hz
  · exact List.mem_append.2 (.inl hz)
  · exact List.mem_append.2 (.inr (hF z hz))
/-- A call of the program's. -/
theorem P2.one {f : Nat} {args : Array Value} {s' : CS} {v : Value} (h : P2 w0 b c ga gka Gr s1 s2 m n F w)
    (hc : ∀ F', Prov w0 b s1 m F' w → Calls Tryz.prog f args w fun e w' => e = .returned v ∧ Prov w0 b s' (m + 1) F' w' ∧ Kept F' w w') :
    Calls Tryz.prog f args w fun e w' => e = .returned v ∧ P2 w0 b c ga gka Gr s' s2 (m + 1) n F w' ∧ Kept F w w' := by
  obtain ⟨⟨tv, lav, bv, lr, h1, h2, h3⟩, h4⟩ := h
  refine (hc _ h2).mono fun e w' ⟨he, hP, hK⟩ => ⟨he, ⟨⟨tv, lav, bv, lr, h1.kept (fun z hz => hK.2 z (List.mem_append.2 (.inl hz))) hP.bl, hP, h3⟩, h4⟩, hK.1, fun z hz => hK.2 z (List.mem_append.2 (.inr hz))⟩
/-- A call of the document's. -/
theorem P2.two {f : Nat} {args : Array Value} {s' : CS} {v : Value} (h : P2 w0 b c ga gka Gr s1 s2 m n F w) (hok : s'.Ok (n + 1))
    (hc : ∀ tv lav bv lr, RT w0 w c ga gka Gr s2 tv lav bv lr → Calls Tryz.prog f args w fun e w' => e = .returned v ∧ ∃ lr', RT w0 w' c ga gka Gr s' tv lav bv lr' ∧ Only (rblocks c tv lav bv lr) w w' ∧ NewB w.heap.size lr lr') :
    Calls Tryz.prog f args w fun e w' => e = .returned v ∧ P2 w0 b c ga gka Gr s1 s' m (n + 1) F w' ∧ Kept F w w' := by
  obtain ⟨⟨tv, lav, bv, lr, h1, h2, h3⟩, h4⟩ := h
  refine (hc _ _ _ _ h1).mono fun e w' ⟨he, lr', hR, ho, hN⟩ => ?_
  obtain ⟨⟨G, gv, pv, lv, g1, g2, g3⟩, g4, g5⟩ := h2
  have hb0 : Below w0.heap.size w0 w' := hR.bl
  -- whatever is the document's, is so of its type, but for the lists of instances
  have ty : ∀ z ∈ rblocks c tv lav bv lr, TyAt w z 65 ∨ TyAt w z 3 ∨ TyAt w z 4 ∨ (TyAt w z 41 ∧ lr.ownBlock = some z) := fun z hz => by
    unfold rblocks at hz
    rcases List.mem_cons.1 hz with rfl | hz
    · exact .inl (blk_ty h1.row)
    rcases List.mem_append.1 hz with hz | hz
    · exact .inr (.inl (own_ty h1.to (by simpa using hz)))
    rcases List.mem_append.1 hz with hz | hz
    · exact .inr (.inl (own_ty h1.la (by simpa using hz)))
    rcases List.mem_append.1 hz with hz | hz
    · exact .inr (.inr (.inl (own_ty h1.br (by simpa using hz))))
    · exact .inr (.inr (.inr ⟨own_ty h1.lo (by simpa using hz), by simpa using hz⟩))
  have N : ∀ {q : Nat} {t : TypeId}, TyAt w q t → t ≠ 65 → t ≠ 3 → t ≠ 4 → t ≠ 41 → q ∉ rblocks c tv lav bv lr := fun hq t1 t2 t3 t4 hm => by
    rcases ty _ hm with e | e | e | ⟨e, _⟩
    · exact hq.ne e t1 rfl
    · exact hq.ne e t2 rfl
    · exact hq.ne e t3 rfl
    · exact hq.ne e t4 rfl
  have hl : ∀ g, lv.ownBlock = some g → g ∉ rblocks c tv lav bv lr := fun g e hm => (g3 g (List.mem_append.2 (.inl hm))).2 (by unfold blocksOf; simp [e])
  have hC : CT w' w0.heap.size b G s1 gv pv lv := g1.only ho (N (blk_ty g1.row) (by decide) (by decide) (by decide) (by decide)) (fun g e => N (own_ty g1.go e) (by decide) (by decide) (by decide) (by decide)) (fun g e => N (own_ty g1.po e) (by decide) (by decide) (by decide) (by decide)) hl
    (fun x hx g e => by
      rcases e with e | e
      · exact N (own_ty (g1.ms x hx).l e) (by decide) (by decide) (by decide) (by decide)
      · exact N (own_ty (g1.ms x hx).t e) (by decide) (by decide) (by decide) (by decide))
  have hnew : ∀ z ∈ rblocks c tv lav bv lr', z ∈ rblocks c tv lav bv lr ∨ w.heap.size ≤ z := fun z hz => by
    unfold rblocks at hz ⊢
    rcases List.mem_cons.1 hz with rfl | hz
    · exact .inl (by simp)
    rcases List.mem_append.1 hz with hz | hz
    · exact .inl (List.mem_cons_of_mem _ (List.mem_append.2 (.inl hz)))
    rcases List.mem_append.1 hz with hz | hz
    · exact .inl (List.mem_cons_of_mem _ (List.mem_append.2 (.inr (List.mem_append.2 (.inl hz)))))
    rcases List.mem_append.1 hz with hz | hz
    · exact .inl (List.mem_cons_of_mem _ (List.mem_append.2 (.inr (List.mem_append.2 (.inr (List.mem_append.2 (.inl hz)))))))
    · rcases hN z (by simpa using hz) with e | e
      · exact .inl (List.mem_cons_of_mem _ (List.mem_append.2 (.inr (List.mem_append.2 (.inr (List.mem_append.2 (.inr (by simpa using e))))))))
      · exact .inr e
  refine ⟨he, ⟨⟨tv, lav, bv, lr', hR, ⟨⟨G, gv, pv, lv, hC, g2, fun z hz => ?_⟩, hb0, g5⟩, fun z hz hm => ?_⟩, hok⟩, ho.size, fun z hz => ho.block z (g3 z (List.mem_append.2 (.inr hz))).1 (h3 z hz)⟩
  · rcases List.mem_append.1 hz with hz | hz
    · refine ⟨(hR.blocks z hz).2, fun hm => ?_⟩
      rcases hnew z hz with e | e
      · exact (g3 z (List.mem_append.2 (.inl e))).2 hm
      · have := (g1.blocks z hm).2
        omega
    · obtain ⟨e1, e2⟩ := g3 z (List.mem_append.2 (.inr hz))
      exact ⟨Nat.lt_of_lt_of_le e1 ho.size, e2⟩
  · rcases hnew z hm with e | e
    · exact h3 z hz e
    · have := (g3 z (List.mem_append.2 (.inr hz))).1
      omega
end
section
variable {w0 w w' : World} {b c m n m' n' : Nat} {ga : Option Addr} {gka : Nat} {Gr : List Gp} {s1 s2 : CS} {F : List Nat}
theorem r_sub_t {c : Nat} {tv lav bv lr : Value} {S : List Nat} (h : ∀ z ∈ S, z = c ∨ tv.ownBlock = some z ∨ bv.ownBlock = some z ∨ lr.ownBlock = some z) : ∀ z ∈ S, z ∈ rblocks c tv lav bv lr := fun z hz => by
  unfold rblocks
  rcases h z hz with e | e | e | e <;> simp [e]
theorem P2.g16 (h : P2 w0 b c ga gka Gr s1 s2 m n F w) : Gr.length ≤ 1000 := by
  obtain ⟨⟨tv, lav, bv, lr, h1, h2, h3⟩, h4⟩ := h
  have e : Gr.length = s2.G.length := by rw [← h1.gk, List.length_map]
  have := h4.g16
  omega
theorem P2.l6 (h : P2 w0 b c ga gka Gr s1 s2 m n F w) (hm : n ≤ 100) : s2.L.length ≤ 1000000 := by
  have := h.ok.lb
  omega
theorem P2.inc1 (h : P2 w0 b c ga gka Gr s1 s2 m n F w) (hm : m ≤ 100) (hT : Tab10 w0) (key : ByteArray) (q : Int) (hn0 : -9223372036854775808 ≤ q) (hn1 : q ≤ 9223372036854775807) :
    Calls Tryz.prog 13 #[.pointer (some ⟨b, 0, none⟩), .string key, .int .i64 q] w fun e w' => e = .returned (.int .i64 (s1.inc key q).2) ∧ P2 w0 b c ga gka Gr (s1.inc key q).1 s2 (m + 1) n F w' ∧ Kept F w w' :=
  h.one fun F' hP => pv_inc w0 b m s1 F' w hP hm hT key q hn0 hn1
theorem P2.inc2 (h : P2 w0 b c ga gka Gr s1 s2 m n F w) (hm : n ≤ 100) (key : ByteArray) (q : Int) (hn0 : -9223372036854775808 ≤ q) (hn1 : q ≤ 9223372036854775807) :
    Calls Tryz.prog 25 #[.pointer (some ⟨c, 0, none⟩), .string key, .int .i64 q] w fun e w' => e = .returned (.int .i64 (s2.inc key q).2) ∧ P2 w0 b c ga gka Gr s1 (s2.inc key q).1 m (n + 1) F w' ∧ Kept F w w' :=
  h.two (h.ok.inc key q) fun tv lav bv lr hR => rinc_any w0 c ga gka Gr s2 tv lav bv lr key q w hR n h.ok hm hn0 hn1
theorem P2.dec1 (h : P2 w0 b c ga gka Gr s1 s2 m n F w) (hm : m ≤ 100) (key : ByteArray) (q : Int) (hn0 : -9223372036854775808 ≤ q) (hn1 : q ≤ 9223372036854775807) :
    Calls Tryz.prog 19 #[.pointer (some ⟨b, 0, none⟩), .string key, .int .i64 q] w fun e w' => e = .returned (.int .i64 (s1.dec key q).2) ∧ P2 w0 b c ga gka Gr (s1.dec key q).1 s2 (m + 1) n F w' ∧ Kept F w w' :=
  h.one fun F' hP => pv_dec w0 b m s1 F' w hP hm key q hn0 hn1
theorem P2.dec2 (h : P2 w0 b c ga gka Gr s1 s2 m n F w) (hm : n ≤ 100) (key : ByteArray) (q : Int) (hn0 : -9223372036854775808 ≤ q) (hn1 : q ≤ 9223372036854775807) :
    Calls Tryz.prog 27 #[.pointer (some ⟨c, 0, none⟩), .string key, .int .i64 q] w fun e w' => e = .returned (.int .i64 (s2.dec key q).2) ∧ P2 w0 b c ga gka Gr s1 (s2.dec key q).1 m (n + 1) F w' ∧ Kept F w w' :=
  h.two (h.ok.dec key q) fun tv lav bv lr hR => (rdec_any w0 c ga gka Gr s2 tv lav bv lr key q w hR n h.ok hm hn0 hn1).mono fun e w' ⟨he, hR', ho⟩ => ⟨he, lr, hR', ho.mono (r_sub_t fun z hz => by simp at hz; rcases hz with hz | hz <;> simp [hz]), NewB.refl⟩
theorem P2.del1 (h : P2 w0 b c ga gka Gr s1 s2 m n F w) (hm : m ≤ 100) (key : ByteArray) :
    Calls Tryz.prog 15 #[.pointer (some ⟨b, 0, none⟩), .string key] w fun e w' => e = .returned (.int .i64 (s1.del key).2) ∧ P2 w0 b c ga gka Gr (s1.del key).1 s2 (m + 1) n F w' ∧ Kept F w w' :=
  h.one fun F' hP => pv_del w0 b m s1 F' w hP hm key
theorem P2.del2 (h : P2 w0 b c ga gka Gr s1 s2 m n F w) (hm : n ≤ 100) (key : ByteArray) :
    Calls Tryz.prog 26 #[.pointer (some ⟨c, 0, none⟩), .string key] w fun e w' => e = .returned (.int .i64 (s2.del key).2) ∧ P2 w0 b c ga gka Gr s1 (s2.del key).1 m (n + 1) F w' ∧ Kept F w w' :=
  h.two (h.ok.del key) fun tv lav bv lr hR => (rdel_any w0 c ga gka Gr s2 tv lav bv lr key w hR n h.ok hm).mono fun e w' ⟨he, hR', ho⟩ => ⟨he, lr, hR', ho.mono (r_sub_t fun z hz => by simp at hz; rcases hz with hz | hz | hz <;> simp [hz]), NewB.refl⟩
theorem P2.brk1 (h : P2 w0 b c ga gka Gr s1 s2 m n F w) (hm : m ≤ 100) (key : ByteArray) (is : Bool) :
    Calls Tryz.prog 28 #[.pointer (some ⟨b, 0, none⟩), .string key, .bool is] w fun e w' => e = .returned (.int .i64 (s1.brk key is).2) ∧ P2 w0 b c ga gka Gr (s1.brk key is).1 s2 (m + 1) n F w' ∧ Kept F w w' :=
  h.one fun F' hP => pv_brk w0 b m s1 F' w hP hm key is
theorem P2.brk2 (h : P2 w0 b c ga gka Gr s1 s2 m n F w) (hm : n ≤ 100) (key : ByteArray) (is : Bool) :
    Calls Tryz.prog 29 #[.pointer (some ⟨c, 0, none⟩), .string key, .bool is] w fun e w' => e = .returned (.int .i64 (s2.brk key is).2) ∧ P2 w0 b c ga gka Gr s1 (s2.brk key is).1 m (n + 1) F w' ∧ Kept F w w' :=
  h.two ((h.ok.brk key is).up (Nat.le_succ n)) fun tv lav bv lr hR => (rbrk_any w0 c ga gka Gr s2 tv lav bv lr key is w hR h.g16 h.ok.ln).mono fun e w' ⟨he, hR', ho⟩ => ⟨he, lr, hR', ho.mono (r_sub_t fun z hz => by simp at hz; simp [hz]), NewB.refl⟩
theorem P2.fail1 (h : P2 w0 b c ga gka Gr s1 s2 m n F w) (hm : m ≤ 100) (key : ByteArray) :
    Calls Tryz.prog 30 #[.pointer (some ⟨b, 0, none⟩), .string key] w fun e w' => e = .returned (.int .i64 (s1.fail key).2) ∧ P2 w0 b c ga gka Gr (s1.fail key).1 s2 (m + 1) n F w' ∧ Kept F w w' :=
  h.one fun F' hP => pv_fail w0 b m s1 F' w hP hm key
theorem P2.fail2 (h : P2 w0 b c ga gka Gr s1 s2 m n F w) (hm : n ≤ 100) (key : ByteArray) :
    Calls Tryz.prog 31 #[.pointer (some ⟨c, 0, none⟩), .string key] w fun e w' => e = .returned (.int .i64 (s2.fail key).2) ∧ P2 w0 b c ga gka Gr s1 (s2.fail key).1 m (n + 1) F w' ∧ Kept F w w' :=
  h.two ((h.ok.fail key).up (Nat.le_succ n)) fun tv lav bv lr hR => (rfail_any w0 c ga gka Gr s2 tv lav bv lr key w hR (h.l6 hm)).mono fun e w' ⟨he, hR', ho⟩ => ⟨he, lr, hR', ho.mono (r_sub_t fun z hz => by simp at hz; simp [hz]), NewB.refl⟩
theorem P2.tick1 (h : P2 w0 b c ga gka Gr s1 s2 m n F w) (hm : m ≤ 100) :
    Calls Tryz.prog 14 #[.pointer (some ⟨b, 0, none⟩)] w fun e w' => e = .returned (.tuple #[]) ∧ P2 w0 b c ga gka Gr s1.tick s2 (m + 1) n F w' ∧ Kept F w w' :=
  h.one fun F' hP => pv_tick w0 b m s1 F' w hP hm
theorem P2.tick2 (h : P2 w0 b c ga gka Gr s1 s2 m n F w) (hm : n ≤ 100) :
    Calls Tryz.prog 32 #[.pointer (some ⟨c, 0, none⟩)] w fun e w' => e = .returned (.tuple #[]) ∧ P2 w0 b c ga gka Gr s1 s2.tick m (n + 1) F w' ∧ Kept F w w' :=
  h.two h.ok.tick fun tv lav bv lr hR => rtick_any w0 c ga gka Gr s2 tv lav bv lr w hR n h.ok hm
theorem P2.prov (h : P2 w0 b c ga gka Gr s1 s2 m n F w) : ∃ F', Prov w0 b s1 m F' w := by
  obtain ⟨⟨tv, lav, bv, lr, h1, h2, h3⟩, h4⟩ := h
  exact ⟨_, h2⟩
end
end Go.Proofs.YtcfdejlbchdciaaGreatDoor
