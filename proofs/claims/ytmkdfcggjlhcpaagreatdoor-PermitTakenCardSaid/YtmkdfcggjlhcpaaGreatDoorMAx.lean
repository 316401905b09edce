/-
  Regions, frames, slices of the call itself and of those that came in; blocks that are kept.
-/
import Derived.Test.YtmkdfcggjlhcpaaGreatDoorRows
import Derived.WalkKit
import Derived.WalkSpells
import Derived.WalkLawsBesides
import Derived.BigQuiet
import Derived.Lib.Hide
import Derived.ProofKit
import Derived.OpenShut
import Derived.Deep.QuietTactic
import Derived.Deep.Slices
import Derived.Lib.SmallJoins
import Derived.OwnWalk
import Derived.Laws.AppendOwnNone
import Derived.Maps.OwnSet
import Derived.Deep.AppendLies
import Derived.Deep.MidRow
import Derived.Deep.WholeRow
namespace Go.Proofs.YtmkdfcggjlhcpaaGreatDoor
open Go.RowKit
open Go.ChangeShapes Go.WideShapes Go.ChangeAt Go.RowKit
set_option linter.unusedVariables false
set_option linter.unusedSimpArgs false
theorem bcell {W w1 : World} (hb : Below W.heap.size W w1) : (∀ b o, b < W.heap.size → w1.cell? ⟨b, o, none⟩ = W.cell? ⟨b, o, none⟩) ∧ (∀ b o, b < W.heap.size → w1.frozen? ⟨b, o, none⟩ = W.frozen? ⟨b, o, none⟩) :=
  ⟨fun b o h => hb.cell (p := ⟨b, o, none⟩) h, fun b o h => hb.frozen (p := ⟨b, o, none⟩) h⟩
theorem below_step {B : Nat} {w W w1 : World} (hb : Below W.heap.size W w1) (h : Below B w W) (hs : B ≤ W.heap.size) : Below B w w1 := h.trans (hb.mono hs)
theorem below_drewN' {B : Nat} {a w : World} (h : Below B a w) (n : Nat) : Below B a (w.drewN n) := h.trans ⟨rfl, rfl, rfl, Nat.le_refl _, fun _ _ => rfl⟩
theorem Tryz.own : ownKnob Tryz.prog.godebug = none := by kernel_rfl
theorem Tryz.laidOut : laidOutB Tryz.prog = true := by kernel_rfl
theorem below_trodAll {H : Type} {enc : TypeId × Value → H} {P : Program} (hl : laidOutB P = true) {W W' : World} (hb : Below W.heap.size W W') :
    ∀ (ts : List TypeId) (vs : List Value) (ds : List (DataW H)) (ps : List MemPlace), ts.all (fun t => P.readableRec t && decide (t < P.types.size)) = true →
      DataW.TrodAll enc P W 0 (fun _ => true) true ts vs ds ps → (∀ x ∈ ps, x.block < W.heap.size) → DataW.TrodAll enc P W' 0 (fun b => decide (b < W.heap.size)) true ts vs ds ps
  | [], [], [], ps, _, h, _ => h
  | t :: ts, v :: vs, d :: ds, ps, ht, h, hlt => by
    obtain ⟨p, q, h1, h2, rfl⟩ := h
    simp only [List.all_cons, Bool.and_eq_true, decide_eq_true_eq] at ht
    exact ⟨p, q, Below.trod hl ht.1.1 ht.1.2 h1 hb (fun x hx => hlt x (List.mem_append.2 (.inl hx))), below_trodAll hl hb ts vs ds q ht.2 h2 (fun x hx => hlt x (List.mem_append.2 (.inr hx))), rfl⟩
  | [], _ :: _, _, _, _, h, _ => by simp [DataW.TrodAll] at h
  | [], [], _ :: _, _, _, h, _ => by simp [DataW.TrodAll] at h
  | _ :: _, [], _, _, _, h, _ => by simp [DataW.TrodAll] at h
  | _ :: _, _ :: _, [], _, _, h, _ => by simp [DataW.TrodAll] at h
theorem law_post {H : Type} {enc : TypeId × Value → H} {P : Program} {fn : Func} {s : ChangeSpec} {fresh handsOn : Bool} {W W' : World} {args : Array Value} {ds gs : List (DataW H)} {before : List MemPlace} {tb : TypeId}
    (hl : laidOutB P = true) (hW : DataW.Whole enc P fn.params.toList s.vars false W args.toList ds gs before) (hvars : s.vars = [])
    (hts : fn.params.toList.all (fun t => P.readableRec t && decide (t < P.types.size)) = true) (hrt : fn.resultTypes = #[tb]) (hbool : P.underlying tb = some .bool)
    (hres : (s.fn H (ds ++ [])).results = [.lit (.bool true)]) (hargs : (s.fn H (ds ++ [])).args = ds) (hvs : (s.fn H (ds ++ [])).vars = [])
    (hb : Below W.heap.size W W') : s.post enc P fn false fresh handsOn false W args (.bool true) W' := by
  have hW0 := hW
  obtain ⟨p, q, hA, hV, rfl, hfz, hnd⟩ := hW
  rw [hvars] at hV
  obtain ⟨rfl, rfl⟩ := trodVars_none hV
  have hlt : ∀ x ∈ p, x.block < W.heap.size := fun x hx => by simpa using hW0.lt x (List.mem_append.2 (.inl hx))
  refine ⟨ds, [], p ++ [], [], p, [], hW0, ?_, ?_, ?_, hb.frame _, fun h => by cases h⟩
  · rw [hrt, hres]
    exact trodAll_mk1 (shut_bool hbool true)
  · rw [hargs]
    exact below_trodAll hl hb _ _ _ _ hts hA hlt
  · rw [hvs, hvars]
    rfl
structure Held (W : World) where
  w : World
  below : Below W.heap.size W w
instance (W : World) : Nonempty (Held W) := ⟨⟨W, Below.refl _ _⟩⟩
theorem region_below {P : Program} {id : Nat} {Q : Exit → Act → World → Prop} {a : Act} {w : World} {l : List Oper} (hm : P.follows .mixedOrders = true) (hB : Region.lexB .any l.toArray = true)
    (h : wpQuiet P l.toArray (fun w' => ∃ n : Held w, w' = n.w) (fun a' => ∀ w', (∃ n : Held w, w' = n.w) → Q .normal a' w') l a) : (Code.region id l.toArray true).wp P Q a w :=
  wp_region_quiet (C := fun w' => ∃ n : Held w, w' = n.w) hm hB ⟨⟨w.drew, (Below.refl _ _).drew⟩, rfl⟩ (by simpa using h)
theorem held_cell (W : World) (n : Held W) (b o : Nat) (h : b < W.heap.size) : n.w.cell? ⟨b, o, none⟩ = W.cell? ⟨b, o, none⟩ := n.below.cell (p := ⟨b, o, none⟩) h
theorem held_calls {P : Program} {f : FuncId} {args : Array Value} {W : World} {n : Held W} {v : Value}
    (h : Calls P f args n.w fun e w' => e = .returned v ∧ Below n.w.heap.size n.w w') : Calls P f args n.w fun e w' => e = .returned v ∧ ∃ m : Held W, w' = m.w :=
  h.mono fun _ w' ⟨he, hb⟩ => ⟨he, ⟨w', n.below.trans (hb.mono n.below.size)⟩, rfl⟩
theorem rows_length {α : Type} (enc : α → List Value) (K : Nat) (hk : ∀ x, (enc x).length = K) (l : List α) : (l.flatMap enc).length = l.length * K := by
  induction l with
  | nil => simp
  | cons x l ih => simp [List.flatMap_cons, ih, hk, Nat.add_mul, Nat.add_comm]
theorem rows_get {α : Type} (enc : α → List Value) (K : Nat) (hk : ∀ x, (enc x).length = K) (l : List α) (i r : Nat) (x : α) (hx : l[i]? = some x) (hr : r < K) : (l.flatMap enc)[i * K + r]? = (enc x)[r]? := by
  induction l generalizing i with
  | nil => simp at hx
  | cons y l ih =>
    rw [List.flatMap_cons]
    cases i with
    | zero =>
      obtain rfl : y = x := by simpa using hx
      rw [Nat.zero_mul, Nat.zero_add, List.getElem?_append_left (by rw [hk]; exact hr)]
    | succ i =>
      rw [List.getElem?_append_right (by rw [hk, Nat.add_mul]; omega), hk, show (i + 1) * K + r - K = i * K + r by rw [Nat.add_mul]; omega]
      exact ih i (by simpa using hx)
theorem news_at (w : World) (cs : List Value) (t : TypeId) : ∀ j u, cs[j]? = some u → (w.alloc (.cells cs.toArray t)).cell? ((⟨w.heap.size, 0, none⟩ : Addr).add j) = some u := by
  intro j u h
  rw [Go.WideShapes.add_plain, Nat.zero_add, World.cell?_alloc_at _ _ _ _ rfl]
  simpa using h
theorem own_rows {α : Type} {enc : α → List Value} {K : Nat} (hk : ∀ x, (enc x).length = K) {w : World} {base : Nat} {e : TypeId} {v : Value} {l : List α} (h : w.ownsRow base e K v l.length (l.flatMap enc)) (hK : 0 < K) :
    ∃ sp cap, v = .slice sp l.length cap ∧ (0 < l.length → ∃ b, sp = some ⟨b, 0, none⟩ ∧ base ≤ b ∧ b < w.heap.size ∧ ∀ i x, l[i]? = some x → ∀ r, r < K → w.cell? ⟨b, 0 + i * K + r, none⟩ = (enc x)[r]?) := by
  have h0 := h
  obtain ⟨hl, hv | ⟨g, cap, cur, rfl, hg, hh, hk', hcm, hcs, ht⟩⟩ := h
  · obtain ⟨rfl, h00⟩ := hv
    rw [h00]
    exact ⟨none, 0, rfl, fun h => absurd h (by omega)⟩
  · refine ⟨_, cap, rfl, fun hpos => ⟨g, rfl, hg, (h0.lt g rfl).2, fun i x hx r hr => ?_⟩⟩
    have hi : i < l.length := (List.getElem?_eq_some_iff.1 hx).1
    have hlt : i * K + r < l.length * K := by
      have : (i + 1) * K ≤ l.length * K := Nat.mul_le_mul_right K hi
      rw [Nat.add_mul] at this
      omega
    rw [Nat.zero_add, World.ownsRow.cellAt h0 (i * K + r) (by omega), rows_get enc K hk l i r x hx hr]
theorem own_below {w w1 W : World} {B : Nat} {v : Value} {n k : Nat} {e : TypeId} {xs : List Value} (h : w.ownsRow B e k v n xs) (hb : Below B W w) (hs : B ≤ w.heap.size) (hg : w.grownBy w1 v.ownBlock) : Below B W w1 :=
  hb.grown hg hs fun q hq => (h.lt q hq).1
theorem le_alloc {w : World} {B : Nat} (h : B ≤ w.heap.size) (o : Obj) : B ≤ (w.alloc o).heap.size := by simp; omega
theorem own_kept {w w1 : World} {B : Nat} {v : Value} {n k : Nat} {e : TypeId} {xs : List Value} (h : w.ownsRow B e k v n xs) (hb : Below w.heap.size w w1) : w1.ownsRow B e k v n xs := by
  obtain ⟨hl, hv | ⟨g, cap, cur, rfl, hg, hh, r⟩⟩ := h
  · exact ⟨hl, .inl hv⟩
  · refine ⟨hl, .inr ⟨g, cap, cur, rfl, hg, ?_, r⟩⟩
    rw [hb.block g]
    · exact hh
    · exact (Array.getElem?_eq_some_iff.1 hh).1
theorem wpList_append_src {P : Program} {w : World} {ops : Array Oper} {rest : List Oper} {o : Oper} {a : Act} {Q : Exit → Act → World → Prop} (hgd : o.guard = none) (s x : Operand) (t : TypeId)
    (ho : o.op = .call { callee := .builtin .append, args := #[s, x], argTypes := #[t, t] })
    (base : Nat) (e : TypeId) (i : TypeInfo) (z : Value) (size bytes : Nat) (ht : P.underlying t = some (.slice e)) (hi : P.info? e = some i) (hz : i.zero = some z)
    (hsize : i.size = size) (hby : i.bytes = bytes) (hzs : z.cells.size = size) (hsz : 0 < size)
    (v : Value) (n : Nat) (xs : List Value) (hs : a.eval s = v) (hown : w.ownsRow base e size v n xs)
    (ad : Option Addr) (m c : Nat) (news : List Value) (hx : a.eval x = .slice ad m c) (hl : news.length = m * size) (hnews : ∀ q, ad = some q → ∀ j u, news[j]? = some u → w.cell? (q.add j) = some u) (h0 : ad = none → m = 0 ∧ c = 0) (h1 : ∀ u ∈ news, u.oneCell' = true)
    (h63 : n + m ≤ maxLen) (hbytes : (n + m) * bytes ≤ 140737488355328) (hbase : base ≤ w.heap.size)
    (h : ∀ v' w', w'.ownsRow base e size v' (n + m) (xs ++ news) → w.grownBy w' v.ownBlock → wpList P ops Q rest (a.put o.dst v') w') : wpList P ops Q (o :: rest) a w := by
  cases ad with
  | none =>
    obtain ⟨rfl, rfl⟩ := h0 rfl
    obtain rfl : news = [] := List.eq_nil_of_length_eq_zero (by omega)
    refine wpList_append_own_none hgd s x t ho base e i size ht hi v n xs hs hown hx (h v w ?_ (World.grownBy.refl w _))
    simpa using hown
  | some q => exact wpList_append_own w hgd s x t ho base e i z size bytes ht hi hz hsize hby hzs hsz v n xs hs hown q m c news hx hl (hnews q rfl) h1 h63 hbytes hbase fun v' w' h2 h3 _ => h v' w' h2 h3
def relUpon (P : Program) (R : Value → World → Prop) (w : World) : Result Next → Prop
  | .ok (.value u) w' => R u w' ∧ Below w.heap.size w w'
  | .ok .skip w' => R undef w' ∧ Below w.heap.size w w'
  | .ok (.enter f args) w' => Calls P f args w' fun e w'' => (∃ v, e = .returned v ∧ R v w'') ∧ Below w.heap.size w w''
  | _ => False
def relAt (P : Program) (ops : Array Oper) (o : Oper) (a : Act) (w : World) (R : Value → World → Prop) : Prop :=
  if Region.wanted o (yielded ops a.tmps) then relUpon P R w ((execOp a.eval o).run P w) else R undef w
def Stays (R : Value → World → Prop) : Prop := ∀ v w w', Below w.heap.size w w' → R v w → R v w'
def behind (o : Oper) (j : Nat) : Bool := o.after.any fun e => e.on == j && Region.binds .any e
abbrev Told := List (Nat × (Value → World → Prop))
def given (o : Oper) (Fs : Told) (r : Nat → Value) (w : World) : Prop := ∀ x ∈ Fs, behind o x.1 = true → x.2 (r x.1) w
def wpRel (P : Program) (ops : Array Oper) (W : World) (Q : Act → World → Prop) : List Oper → Nat → ((Nat → Value) → Act) → Told → Prop
  | [], _, F, Fs => ∀ r (n : Held W), (∀ x ∈ Fs, x.2 (r x.1) n.w) → Q (F r) n.w
  | o :: rest, i, F, Fs =>
    (∃ x, (∀ r (n : Held W), given o Fs r n.w → relAt P ops o (F r) n.w fun v _ => v = x) ∧ wpRel P ops W Q rest (i + 1) (fun r => (F r).put o.dst x) Fs) ∨
    (∃ R, Stays R ∧ (∀ r (n : Held W), given o Fs r n.w → relAt P ops o (F r) n.w R) ∧ wpRel P ops W Q rest (i + 1) (fun r => (F r).put o.dst (r i)) (Fs ++ [(i, R)]))
def relB (ops : Array Oper) : Bool :=
  Region.noSelect ops && (List.range ops.size).all fun i =>
    match ops[i]? with
    | none => true
    | some o => o.after.all (fun e => !Region.binds .any e || decide (e.on < i)) &&
      (List.range ops.size).all fun j => match (ops[j]?).bind (·.dst) with
        | none => true
        | some d => (i == j || o.dst != some d) && (!(o.looksAt ops).contains d || behind o j || ((ops[j]?).map (behind · i)).getD false)
section
variable {P : Program} {ops : Array Oper} {W : World}
structure Agree (ops : Array Oper) (a0 a : Act) (L : Nat → Prop) (r : Nat → Value) : Prop where
  defers : a.defers = a0.defers
  size : a.tmps.size = a0.tmps.size
  on : ∀ j d, (ops[j]?).bind (·.dst) = some d → L j → d < a0.tmps.size → a.tmps[d]? = some (r j)
  off : ∀ t, (∀ j, (ops[j]?).bind (·.dst) = some t → ¬ L j) → a.tmps[t]? = a0.tmps[t]?
theorem relB_spec (h : relB ops = true) : Region.noSelect ops = true ∧ ∀ i o, ops[i]? = some o → (∀ e ∈ o.after, Region.binds .any e = true → e.on < i) ∧
    ∀ j d, (ops[j]?).bind (·.dst) = some d → (i ≠ j → o.dst ≠ some d) ∧ (d ∈ o.looksAt ops → behind o j = true ∨ ∃ oj, ops[j]? = some oj ∧ behind oj i = true) := by
  unfold relB at h
  rw [Bool.and_eq_true, List.all_eq_true] at h
  refine ⟨h.1, fun i o ho => ?_⟩
  have hi : i < ops.size := (Array.getElem?_eq_some_iff.1 ho).1
  have h1 := h.2 i (List.mem_range.2 hi)
  simp only [ho, Bool.and_eq_true, List.all_eq_true, Array.all_eq_true_iff_forall_mem] at h1
  refine ⟨fun e he hb => by have := h1.1 e he; simpa [hb] using this, fun j d hj => ?_⟩
  have hjl : j < ops.size := by
    cases hx : ops[j]? with
    | none => rw [hx] at hj; cases hj
    | some x => exact (Array.getElem?_eq_some_iff.1 hx).1
  have h2 := h1.2 j (List.mem_range.2 hjl)
  simp only [hj, Bool.and_eq_true, Bool.or_eq_true, beq_iff_eq, bne_iff_ne, Bool.not_eq_true'] at h2
  refine ⟨fun hne => h2.1.resolve_left hne, fun hd => ?_⟩
  rcases h2.2 with (h3 | h3) | h3
  · exact absurd h3 (by simpa using hd)
  · exact .inl h3
  · cases hx : ops[j]? with
    | none => rw [hx] at h3; simp at h3
    | some x => rw [hx] at h3; exact .inr ⟨x, rfl, by simpa using h3⟩
theorem behind_iff {o : Oper} {j : Nat} : behind o j = true ↔ ∃ e ∈ o.after, e.on = j ∧ Region.binds .any e = true := by
  simp only [behind, Array.any_eq_true, Bool.and_eq_true, beq_iff_eq]
  constructor
  · rintro ⟨i, h, h1, h2⟩
    exact ⟨_, Array.getElem_mem h, h1, h2⟩
  · rintro ⟨e, he, h⟩
    obtain ⟨i, hi, rfl⟩ := Array.mem_iff_getElem.1 he
    exact ⟨i, hi, h⟩
theorem countP_lt {α : Type} {p q : α → Bool} {i : α} (h : ∀ x, q x = true → p x = true) (hp : p i = true) (hq : q i = false) : ∀ l : List α, i ∈ l → l.countP q < l.countP p
  | x :: l, hi => by
    have hle := List.countP_mono_left (l := l) fun x _ => h x
    rcases List.mem_cons.1 hi with rfl | hi
    · rw [List.countP_cons, List.countP_cons]
      simp [hp, hq]
      omega
    · have := countP_lt h hp hq l hi
      rw [List.countP_cons, List.countP_cons]
      have : (if q x = true then 1 else 0) ≤ (if p x = true then 1 else 0) := by
        by_cases e : q x = true
        · rw [if_pos e, if_pos (h x e)]; exact Nat.le_refl _
        · rw [if_neg e]; omega
      omega
theorem Agree.put (hB : relB ops = true) {a0 a : Act} {L : Nat → Prop} {r : Nat → Value} {i : Nat} {o : Oper} (ho : ops[i]? = some o) (h : Agree ops a0 a L r) (hL : ¬ L i) (v : Value) :
    Agree ops a0 (a.put o.dst v) (fun j => L j ∨ j = i) (fun j => if j = i then v else r j) := by
  obtain ⟨_, hs⟩ := relB_spec hB
  have hi : (ops[i]?).bind (·.dst) = o.dst := by rw [ho]; rfl
  have huniq : ∀ j d, (ops[j]?).bind (·.dst) = some d → o.dst = some d → j = i := fun j d hj hd => by
    by_cases e : j = i
    · exact e
    · exact absurd hd (((hs i o ho).2 j d hj).1 (Ne.symm e))
  have htm : ∀ t, (a.put o.dst v).tmps[t]? = if o.dst = some t then (if t < a.tmps.size then some v else none) else a.tmps[t]? := by
    intro t
    cases hd : o.dst with
    | none => simp [Act.put]
    | some d =>
      simp only [Act.put, Array.getElem?_setIfInBounds, Option.some.injEq]
      by_cases e : d = t
      · subst e; simp
      · simp [e]
  refine ⟨?_, ?_, ?_, ?_⟩
  · rw [← h.defers]; cases o.dst <;> rfl
  · rw [← h.size]; cases o.dst <;> simp [Act.put]
  · intro j d hj hLj hd
    rw [htm]
    by_cases e : o.dst = some d
    · have := huniq j d hj e
      subst this
      rw [if_pos e, if_pos (by rw [h.size]; exact hd), if_pos rfl]
    · rw [if_neg e]
      have hne : j ≠ i := fun x => e (by subst x; rw [← hi]; exact hj)
      rw [if_neg hne]
      exact h.on j d hj (hLj.resolve_right hne) hd
  · intro t ht
    rw [htm]
    by_cases e : o.dst = some t
    · exact absurd (.inr rfl) (ht i (by rw [hi]; exact e))
    · rw [if_neg e]
      exact h.off t fun j hj hLj => ht j hj (.inl hLj)
theorem relAt_of_agree (hB : relB ops = true) {a0 a b : Act} {L M : Nat → Prop} {r s : Nat → Value} {i : Nat} {o : Oper} (ho : ops[i]? = some o)
    (ha : Agree ops a0 a L r) (hb : Agree ops a0 b M s) (hL : ∀ j, behind o j = true → L j ∧ M j ∧ r j = s j) (hN : ∀ j oj, ops[j]? = some oj → behind oj i = true → ¬ L j ∧ ¬ M j) {w : World} {R : Value → World → Prop} (h : relAt P ops o a w R) : relAt P ops o b w R := by
  obtain ⟨hns, hs⟩ := relB_spec hB
  have hsel := fun cs bb => Region.noSelect_spec hns i o cs bb ho
  have hat : ∀ t, t ∈ o.looksAt ops → a.tmps[t]? = b.tmps[t]? := by
    intro t ht
    by_cases hx : ∃ j : Nat, (ops[j]?).bind (fun o => o.dst) = some t
    · obtain ⟨j, hj⟩ := hx
      rcases ((hs i o ho).2 j t hj).2 ht with hbh | ⟨oj, hoj, hbh⟩
      rotate_left
      · obtain ⟨n1, n2⟩ := hN j oj hoj hbh
        have huniq : ∀ j', (ops[j']?).bind (fun o => o.dst) = some t → j' = j := fun j' hj' => by
          by_cases e : j' = j
          · exact e
          · have hoj' : oj.dst = some t := by rw [hoj] at hj; exact hj
            exact absurd hoj' (((hs j oj hoj).2 j' t hj').1 (Ne.symm e))
        rw [ha.off t fun j' hj' => by rw [huniq j' hj']; exact n1, hb.off t fun j' hj' => by rw [huniq j' hj']; exact n2]
      obtain ⟨h1, h2, h3⟩ := hL j hbh
      by_cases hlt : t < a0.tmps.size
      · rw [ha.on j t hj h1 hlt, hb.on j t hj h2 hlt, h3]
      · have hge : a0.tmps.size ≤ t := Nat.le_of_not_lt hlt
        rw [Array.getElem?_eq_none (by rw [ha.size]; exact hge), Array.getElem?_eq_none (by rw [hb.size]; exact hge)]
    · rw [ha.off t fun j hj => absurd ⟨j, hj⟩ hx, hb.off t fun j hj => absurd ⟨j, hj⟩ hx]
  have he : execOp a.eval o = execOp b.eval o := execOp_congr o hsel fun x hx => by
    cases x with
    | tmp t =>
      have := hat t (List.mem_append_left _ (List.mem_filterMap.2 ⟨.tmp t, by simpa using hx, rfl⟩))
      simp [Act.eval, this]
    | _ => rfl
  have hw : Region.wanted o (yielded ops a.tmps) = Region.wanted o (yielded ops b.tmps) := by
    unfold Region.wanted
    cases hg : o.guard with
    | none => rfl
    | some gw =>
      obtain ⟨g, want⟩ := gw
      have hy : yielded ops a.tmps g = yielded ops b.tmps g := by
        unfold yielded
        cases ht : (ops[g]?).bind (·.dst) with
        | none => rfl
        | some t =>
          have := hat t (List.mem_append_right _ (by simp [hg, ht]))
          simp [this]
      simp only [hy]
  unfold relAt at *
  rw [he, hw] at h
  exact h
abbrev Rel := Value → World → Prop
def opSpec (P : Program) (ops : Array Oper) (W : World) (a0 : Act) (Rs : List Rel) (i : Nat) (o : Oper) : Prop :=
  ∀ a L r (n : Held W), Agree ops a0 a L r → (∀ j, behind o j = true → L j ∧ (Rs.getD j fun _ _ => True) (r j) n.w) → (∀ j oj, ops[j]? = some oj → behind oj i = true → ¬ L j) → relAt P ops o a n.w (Rs.getD i fun _ _ => True)
theorem plan (hB : relB ops = true) (a0 : Act) (Q : Act → World → Prop) : ∀ (l : List Oper) (k : Nat) (F : (Nat → Value) → Act) (Fs : Told) (Rs : List Rel) (hat : (Nat → Value) → Nat → Value),
    (∀ j, j < l.length → l[j]? = ops[k + j]?) → Rs.length = k → (∀ R ∈ Rs, Stays R) → (∀ r, Agree ops a0 (F r) (· < k) (hat r)) → (∀ r j w, j < k → (Rs.getD j fun _ _ => True) (r j) w → hat r j = r j) →
    (∀ x ∈ Fs, x.1 < k ∧ Rs[x.1]? = some x.2) → wpRel P ops W Q l k F Fs →
    ∃ Rs' : List Rel, Rs'.length = k + l.length ∧ (∀ R ∈ Rs', Stays R) ∧ (∀ j, j < k → Rs'[j]? = Rs[j]?) ∧ (∀ i o, k ≤ i → ops[i]? = some o → i < k + l.length → opSpec P ops W a0 Rs' i o) ∧
      ∀ r (n : Held W) a, Agree ops a0 a (· < k + l.length) r → (∀ j, j < k + l.length → (Rs'.getD j fun _ _ => True) (r j) n.w) → Q a n.w
  | [], k, F, Fs, Rs, hat, _, hlen, hst, hag, hhat, hFs, h => by
    refine ⟨Rs, by simpa using hlen, hst, fun _ _ => rfl, fun i o h1 _ h2 => absurd h2 (by simp; omega), fun r n a ha hR => ?_⟩
    simp only [List.length_nil, Nat.add_zero] at ha hR
    have e : F r = a := by
      have hF := hag r
      have h1 : (F r).tmps = a.tmps := by
        apply Array.ext_getElem?
        intro t
        by_cases hx : ∃ j, (ops[j]?).bind (·.dst) = some t ∧ j < k
        · obtain ⟨j, hj, hjk⟩ := hx
          by_cases hlt : t < a0.tmps.size
          · rw [hF.on j t hj hjk hlt, ha.on j t hj hjk hlt, hhat r j n.w hjk (hR j hjk)]
          · rw [Array.getElem?_eq_none (by rw [hF.size]; omega), Array.getElem?_eq_none (by rw [ha.size]; omega)]
        · rw [hF.off t fun j hj hl => hx ⟨j, hj, hl⟩, ha.off t fun j hj hl => hx ⟨j, hj, hl⟩]
      have h2 : (F r).defers = a.defers := by rw [hF.defers, ha.defers]
      cases hc : F r; cases a; rw [hc] at h1 h2; simp only at h1 h2; subst h1; subst h2; rfl
    rw [← e]
    exact h r n fun x hx => by
      obtain ⟨h1, h2⟩ := hFs x hx
      have := hR x.1 h1
      rw [List.getD_eq_getElem?_getD, h2] at this
      exact this
  | o :: l, k, F, Fs, Rs, hat, hl, hlen, hst, hag, hhat, hFs, h => by
    have h0 : ops[k]? = some o := by simpa using (hl 0 (by simp)).symm
    have hl' : ∀ j, j < l.length → l[j]? = ops[k + 1 + j]? := fun j hj => by have := hl (j + 1) (by simp; omega); simpa [Nat.add_assoc, Nat.add_comm 1 j] using this
    obtain ⟨R, F', Fs', hat', hR, hstep, hag', hhat', hFs', hrest⟩ : ∃ (R : Rel) (F' : (Nat → Value) → Act) (Fs' : Told) (hat' : (Nat → Value) → Nat → Value), Stays R ∧ (∀ r (n : Held W), given o Fs r n.w → relAt P ops o (F r) n.w R) ∧
        (∀ r, Agree ops a0 (F' r) (· < k + 1) (hat' r)) ∧ (∀ r j w, j < k + 1 → ((Rs ++ [R]).getD j fun _ _ => True) (r j) w → hat' r j = r j) ∧ (∀ x ∈ Fs', x.1 < k + 1 ∧ (Rs ++ [R])[x.1]? = some x.2) ∧ wpRel P ops W Q l (k + 1) F' Fs' := by
      have hkeep : ∀ (R : Rel) (x : Nat × Rel), x ∈ Fs → x.1 < k + 1 ∧ (Rs ++ [R])[x.1]? = some x.2 := fun R x hx => by
        obtain ⟨h1, h2⟩ := hFs x hx
        exact ⟨by omega, by rw [List.getElem?_append_left (by omega)]; exact h2⟩
      have hlt : ∀ (R : Rel) (r : Nat → Value) (j : Nat) (w : World), j < k → ((Rs ++ [R]).getD j fun _ _ => True) (r j) w → hat r j = r j := fun R r j w hj hr => by
        refine hhat r j w hj ?_
        rw [List.getD_eq_getElem?_getD, List.getElem?_append_left (by omega)] at hr
        rw [List.getD_eq_getElem?_getD]
        exact hr
      have hk : ∀ (R : Rel) (v : Value) (w : World), ((Rs ++ [R]).getD k fun _ _ => True) v w → R v w := fun R v w hr => by
        rw [List.getD_eq_getElem?_getD, List.getElem?_append_right (by omega), hlen] at hr
        simpa using hr
      have hput : ∀ (r : Nat → Value) (v : Value), Agree ops a0 ((F r).put o.dst v) (· < k + 1) (fun j => if j = k then v else hat r j) := fun r v => by
        have := (hag r).put hB h0 (Nat.lt_irrefl k) v
        have e : (fun j => j < k ∨ j = k) = (· < k + 1) := funext fun j => propext (by omega)
        rw [e] at this
        exact this
      unfold wpRel at h
      rcases h with ⟨x, h1, h2⟩ | ⟨R, hR, h1, h2⟩
      · refine ⟨fun v _ => v = x, _, _, fun r j => if j = k then x else hat r j, fun _ _ _ _ h => h, h1, fun r => hput r x, fun r j w hj hr => ?_, fun y hy => hkeep _ y hy, h2⟩
        by_cases e : j = k
        · subst e; simp only [if_true]; exact (hk _ _ _ hr).symm
        · simp only [if_neg e]; exact hlt _ r j w (by omega) hr
      · refine ⟨R, _, _, fun r j => if j = k then r k else hat r j, hR, h1, fun r => hput r (r k), fun r j w hj hr => ?_, fun y hy => ?_, h2⟩
        · by_cases e : j = k
          · subst e; simp
          · simp only [if_neg e]; exact hlt _ r j w (by omega) hr
        · rcases List.mem_append.1 hy with hy | hy
          · exact hkeep _ y hy
          · simp only [List.mem_singleton] at hy
            subst hy
            exact ⟨Nat.lt_succ_self k, by rw [List.getElem?_append_right (by omega), hlen]; simp⟩
    obtain ⟨Rs', e1, e2, e3, e4, e5⟩ := plan hB a0 Q l (k + 1) F' Fs' (Rs ++ [R]) hat' hl' (by simp [hlen]) (fun x hx => by
      rcases List.mem_append.1 hx with hx | hx
      · exact hst x hx
      · simp only [List.mem_singleton] at hx; subst hx; exact hR) hag' hhat' hFs' hrest
    have eL : k + (l.length + 1) = k + 1 + l.length := by omega
    refine ⟨Rs', by rw [e1, List.length_cons]; omega, e2, fun j hj => by rw [e3 j (by omega), List.getElem?_append_left (by omega)], fun i oi hi ho hlt => ?_, fun r n a ha hr => ?_⟩
    · rw [List.length_cons] at hlt
      by_cases e : i = k
      · subst e
        have : oi = o := Option.some.inj (ho.symm.trans h0)
        subst this
        intro a L r n ha hL hNL
        have eR : Rs'.getD i (fun _ _ => True) = R := by
          rw [List.getD_eq_getElem?_getD, e3 i (by omega), List.getElem?_append_right (by omega), hlen]; simp
        rw [eR]
        have hj : ∀ j, behind oi j = true → j < i := fun j hj => by
          obtain ⟨e, he, h1, h2⟩ := behind_iff.1 hj
          rw [← h1]
          exact ((relB_spec hB).2 i oi h0).1 e he h2
        have eRj : ∀ j, j < i → Rs'.getD j (fun _ _ => True) = Rs.getD j fun _ _ => True := fun j hj => by
          rw [List.getD_eq_getElem?_getD, e3 j (by omega), List.getElem?_append_left (by omega), List.getD_eq_getElem?_getD]
        refine relAt_of_agree hB h0 (hag r) ha (fun j hb => ⟨hj j hb, (hL j hb).1, ?_⟩) (fun j oj hoj hb => ⟨fun hlt => ?_, hNL j oj hoj hb⟩) (hstep r n ?_)
        · refine hhat r j n.w (hj j hb) ?_
          rw [← eRj j (hj j hb)]
          exact (hL j hb).2
        · obtain ⟨e, he, h1, h2⟩ := behind_iff.1 hb
          have h3 := ((relB_spec hB).2 j oj hoj).1 e he h2
          have hlt' : j < i := hlt
          omega
        · intro x hx hb
          obtain ⟨h1, h2⟩ := hFs x hx
          have := (hL x.1 hb).2
          rw [eRj x.1 h1, List.getD_eq_getElem?_getD, h2] at this
          exact this
      · exact e4 i oi (by omega) ho (by omega)
    · rw [List.length_cons] at ha hr
      exact e5 r n a (by rw [← eL]; exact ha) (fun j hj => hr j (by omega))
theorem rel_step (hB : relB ops = true) {a0 : Act} {Q : Exit → Act → World → Prop} {Rs : List Rel} (hst : ∀ R ∈ Rs, Stays R) {i : Nat} (hop : ∀ o, ops[i]? = some o → opSpec P ops W a0 Rs i o)
    {listed : Array Bool} {a : Act} {n : Held W} {r : Nat → Value} {K : Act → World → Prop} (hsz : listed.size = ops.size) (ha : Agree ops a0 a (fun j => listed.getD j false = true) r)
    (hr : ∀ j, listed.getD j false = true → (Rs.getD j fun _ _ => True) (r j) n.w) (hi : i ∈ Region.ready .any ops listed) (hcl : ∀ j o, ops[j]? = some o → listed.getD j false = true → ∀ e ∈ o.after, Region.binds .any e = true → listed.getD e.on false = true)
    (hK : ∀ a' (n' : Held W) r', Agree ops a0 a' (fun j => (listed.setIfInBounds i true).getD j false = true) r' → (∀ j, (listed.setIfInBounds i true).getD j false = true → (Rs.getD j fun _ _ => True) (r' j) n'.w) → K a' n'.w) : wpOp P ops Q i K a n.w := by
  obtain ⟨hl, o, ho, hall⟩ := mem_ready.1 hi
  have hio : i < ops.size := (Array.getElem?_eq_some_iff.1 ho).1
  have hlf : ¬ listed.getD i false = true := by
    have hil : i < listed.size := by omega
    simp [hil] at hl ⊢
    exact hl
  have hspec := hop o ho a _ r n ha (fun j hb => by
    obtain ⟨e, he, h1, h2⟩ := behind_iff.1 hb
    subst h1
    exact ⟨hall e he h2, hr _ (hall e he h2)⟩) (fun j oj hoj hb hlj => by
    obtain ⟨e, he, h1, h2⟩ := behind_iff.1 hb
    have := hcl j oj hoj hlj e he h2
    rw [h1] at this
    exact hlf this)
  have hnext : ∀ (v : Value) (n' : Held W), Below n.w.heap.size n.w n'.w → (Rs.getD i fun _ _ => True) v n'.w → K (a.put o.dst v) n'.w := by
    intro v n' hb hR
    have hset : ∀ j, ((listed.setIfInBounds i true).getD j false = true) ↔ (listed.getD j false = true ∨ j = i) := fun j => by
      by_cases e : i = j
      · subst e
        have hil : i < listed.size := by omega
        simp [hil]
      · rw [getD_set_ne false e]
        exact ⟨.inl, fun h => h.resolve_right (Ne.symm e)⟩
    refine hK _ n' (fun j => if j = i then v else r j) ?_ fun j hj => ?_
    · have := ha.put hB ho hlf v
      have e : (fun j => listed.getD j false = true ∨ j = i) = (fun j => (listed.setIfInBounds i true).getD j false = true) := funext fun j => propext (hset j).symm
      rw [e] at this
      exact this
    · by_cases e : j = i
      · subst e; simp only [if_true]; exact hR
      · simp only [if_neg e]
        have hjl := ((hset j).1 hj).resolve_right e
        have hmem : (Rs.getD j fun _ _ => True) ∈ Rs ∨ (Rs.getD j fun _ _ => True) = fun _ _ => True := by
          rw [List.getD_eq_getElem?_getD]
          cases hx : Rs[j]? with
          | none => exact .inr rfl
          | some x => exact .inl (List.mem_of_getElem? hx)
        rcases hmem with hm | hm
        · exact hst _ hm _ _ _ hb (hr j hjl)
        · rw [hm]; trivial
  unfold wpOp
  simp only [ho]
  unfold relAt at hspec
  split
  · rename_i hw
    rw [if_pos hw] at hspec
    refine .inl ?_
    unfold Oper.wp
    generalize (execOp a.eval o).run P n.w = x at hspec ⊢
    cases x with
    | ok y w' =>
      cases y <;> simp only [relUpon] at hspec <;> simp only [Oper.upon]
      case value u => exact hnext u ⟨w', n.below.trans (hspec.2.mono n.below.size)⟩ hspec.2 hspec.1
      case skip => exact hnext undef ⟨w', n.below.trans (hspec.2.mono n.below.size)⟩ hspec.2 hspec.1
      case enter f args =>
        refine hspec.mono fun e w'' h => ?_
        obtain ⟨⟨v, rfl, hR⟩, hb⟩ := h
        exact hnext v ⟨w'', n.below.trans (hb.mono n.below.size)⟩ hb hR
    | halt x w' => simp only [relUpon] at hspec
  · rename_i hw
    rw [if_neg hw] at hspec
    exact hnext undef n (Below.refl _ _) hspec
theorem closed_set {listed : Array Bool} {i : Nat} (hi : i ∈ Region.ready .any ops listed) (hcl : ∀ j o, ops[j]? = some o → listed.getD j false = true → ∀ e ∈ o.after, Region.binds .any e = true → listed.getD e.on false = true) :
    ∀ j o, ops[j]? = some o → (listed.setIfInBounds i true).getD j false = true → ∀ e ∈ o.after, Region.binds .any e = true → (listed.setIfInBounds i true).getD e.on false = true := by
  intro j o ho hj e he hb
  by_cases e1 : i = j
  · subst e1
    obtain ⟨_, o', ho', hall⟩ := mem_ready.1 hi
    obtain rfl : o = o' := Option.some.inj (ho.symm.trans ho')
    exact getD_set_true (hall e he hb)
  · rw [getD_set_ne false e1] at hj
    exact getD_set_true (hcl j o ho hj e he hb)
theorem anyRel (hB : relB ops = true) {a0 : Act} {Q : Exit → Act → World → Prop} {Rs : List Rel} (hst : ∀ R ∈ Rs, Stays R)
    (hop : ∀ i o, ops[i]? = some o → opSpec P ops W a0 Rs i o) (hlen : Rs.length = ops.size)
    (hQ : ∀ r (n : Held W) a, Agree ops a0 a (· < ops.size) r → (∀ j, j < ops.size → (Rs.getD j fun _ _ => True) (r j) n.w) → Q .normal a n.w) :
    ∀ (fuel : Nat) (listed : Array Bool) (a : Act) (n : Held W) (r : Nat → Value), listed.size = ops.size → ((List.range ops.size).countP fun i => !listed.getD i false) ≤ fuel → (∀ j o, ops[j]? = some o → listed.getD j false = true → ∀ e ∈ o.after, Region.binds .any e = true → listed.getD e.on false = true) →
      Agree ops a0 a (fun j => listed.getD j false = true) r → (∀ j, listed.getD j false = true → (Rs.getD j fun _ _ => True) (r j) n.w) → wpAny P .any ops Q fuel listed a n.w := by
  have hdone : ∀ (listed : Array Bool) (a : Act) (n : Held W) (r : Nat → Value), listed.size = ops.size → Agree ops a0 a (fun j => listed.getD j false = true) r →
      (∀ j, listed.getD j false = true → (Rs.getD j fun _ _ => True) (r j) n.w) → Region.ready .any ops listed = [] → Q .normal a n.w := by
    intro listed a n r hsz ha hr hnil
    have hall : ∀ m i, i < m → i < ops.size → listed.getD i false = true := by
      intro m
      induction m with
      | zero => intro i h; omega
      | succ m ih =>
        intro i him hi
        by_cases hl : listed.getD i false = true
        · exact hl
        · exfalso
          have : i ∈ Region.ready .any ops listed := by
            refine mem_ready.2 ⟨?_, ops[i], Array.getElem?_eq_getElem hi, fun e he hb => ?_⟩
            · have hil : i < listed.size := by omega
              simp [hil] at hl ⊢
              exact hl
            · have h1 := ((relB_spec hB).2 i ops[i] (Array.getElem?_eq_getElem hi)).1 e he hb
              exact ih e.on (by omega) (by omega)
          rw [hnil] at this
          cases this
    have hL : (fun j => listed.getD j false = true) = (· < ops.size) := funext fun j => propext ⟨fun h => by
      by_cases hj : j < ops.size
      · exact hj
      · simp [Array.getElem?_eq_none (show listed.size ≤ j by omega)] at h, fun h => hall (j + 1) j (by omega) h⟩
    rw [hL] at ha
    exact hQ r n a ha fun j hj => hr j (hall (j + 1) j (by omega) hj)
  intro fuel
  induction fuel with
  | zero =>
    intro listed a n r hsz hc hcl ha hr
    have hnil : Region.ready .any ops listed = [] := by
      cases hx : Region.ready .any ops listed with
      | nil => rfl
      | cons i xs =>
        exfalso
        have hi : i ∈ Region.ready .any ops listed := by rw [hx]; exact List.mem_cons_self
        obtain ⟨hl, o, ho, _⟩ := mem_ready.1 hi
        have hio : i < ops.size := (Array.getElem?_eq_some_iff.1 ho).1
        have : 0 < (List.range ops.size).countP fun i => !listed.getD i false := List.countP_pos_iff.2 ⟨i, List.mem_range.2 hio, by
          have hil : i < listed.size := by omega
          simp [hil] at hl ⊢
          exact hl⟩
        omega
    exact ⟨hnil, hdone listed a n r hsz ha hr hnil⟩
  | succ fuel ih =>
    intro listed a n r hsz hc hcl ha hr
    refine ⟨hdone listed a n r hsz ha hr, fun i hi => rel_step hB hst (hop i) hsz ha hr hi hcl fun a' n' r' ha' hr' => ih _ a' n' r' (by simpa using hsz) ?_ (closed_set hi hcl) ha' hr'⟩
    obtain ⟨hl, o, ho, _⟩ := mem_ready.1 hi
    have hio : i < ops.size := (Array.getElem?_eq_some_iff.1 ho).1
    have hil : i < listed.size := by omega
    have : ((List.range ops.size).countP fun j => !(listed.setIfInBounds i true).getD j false) < ((List.range ops.size).countP fun j => !listed.getD j false) := by
      refine countP_lt (i := i) (fun j hj => ?_) ?_ ?_ _ (List.mem_range.2 hio)
      · by_cases e : i = j
        · subst e; simp [hil] at hj
        · rw [getD_set_ne false e] at hj; exact hj
      · simp [hil] at hl ⊢
        exact hl
      · simp [hil]
    omega
end
section
variable {P : Program} {ops : Array Oper} {W : World} {Q : Act → World → Prop}
theorem relStep {o : Oper} {rest : List Oper} {i : Nat} {F : (Nat → Value) → Act} {Fs : Told}
    (h : ∀ K : ((Nat → Value) → Act) → Told → Prop, (∀ F Fs, wpRel P ops W Q rest (i + 1) F Fs → K F Fs) →
      (∃ x, (∀ r (n : Held W), given o Fs r n.w → relAt P ops o (F r) n.w fun v _ => v = x) ∧ K (fun r => (F r).put o.dst x) Fs) ∨
      (∃ R, Stays R ∧ (∀ r (n : Held W), given o Fs r n.w → relAt P ops o (F r) n.w R) ∧ K (fun r => (F r).put o.dst (r i)) (Fs ++ [(i, R)]))) : wpRel P ops W Q (o :: rest) i F Fs :=
  h _ fun _ _ h => h
theorem relNil {i : Nat} {F : (Nat → Value) → Act} {Fs : Told} (h : ∀ r (n : Held W), (∀ x ∈ Fs, x.2 (r x.1) n.w) → Q (F r) n.w) : wpRel P ops W Q [] i F Fs := h
theorem relInl {o : Oper} {i : Nat} {F : (Nat → Value) → Act} {Fs : Told} {K : ((Nat → Value) → Act) → Told → Prop} {x : Value} (h1 : ∀ r (n : Held W), given o Fs r n.w → relAt P ops o (F r) n.w fun v _ => v = x) (h2 : K (fun r => (F r).put o.dst x) Fs) :
    (∃ x, (∀ r (n : Held W), given o Fs r n.w → relAt P ops o (F r) n.w fun v _ => v = x) ∧ K (fun r => (F r).put o.dst x) Fs) ∨
      (∃ R, Stays R ∧ (∀ r (n : Held W), given o Fs r n.w → relAt P ops o (F r) n.w R) ∧ K (fun r => (F r).put o.dst (r i)) (Fs ++ [(i, R)])) := .inl ⟨x, h1, h2⟩
theorem relInr {o : Oper} {i : Nat} {F : (Nat → Value) → Act} {Fs : Told} {K : ((Nat → Value) → Act) → Told → Prop} (R : Value → World → Prop) (hR : Stays R) (h1 : ∀ r (n : Held W), given o Fs r n.w → relAt P ops o (F r) n.w R) (h2 : K (fun r => (F r).put o.dst (r i)) (Fs ++ [(i, R)])) :
    (∃ x, (∀ r (n : Held W), given o Fs r n.w → relAt P ops o (F r) n.w fun v _ => v = x) ∧ K (fun r => (F r).put o.dst x) Fs) ∨
      (∃ R, Stays R ∧ (∀ r (n : Held W), given o Fs r n.w → relAt P ops o (F r) n.w R) ∧ K (fun r => (F r).put o.dst (r i)) (Fs ++ [(i, R)])) := .inr ⟨R, hR, h1, h2⟩
theorem relUpon_val {R : Value → World → Prop} {w w' : World} {u : Value} (h : R u w') (hb : Below w.heap.size w w') : relUpon P R w (.ok (.value u) w') := ⟨h, hb⟩
theorem relUpon_enter {R : Value → World → Prop} {w w' : World} {f : FuncId} {args : Array Value} (h : Calls P f args w' fun e w'' => (∃ v, e = .returned v ∧ R v w'') ∧ Below w.heap.size w w'') : relUpon P R w (.ok (.enter f args) w') := h
end
theorem given_at {o : Oper} {Fs : Told} {r : Nat → Value} {w : World} (h : given o Fs r w) (k : Nat) {x : Nat × (Value → World → Prop)} (hx : Fs[k]? = some x) (hb : behind o x.1 = true) : x.2 (r x.1) w := h x (List.mem_of_getElem? hx) hb
theorem any_lex {P : Program} {ops : Array Oper} {Q : Exit → Act → World → Prop} (hB : relB ops = true) : ∀ (m k : Nat) (listed : Array Bool) (a : Act) (w : World), k + m = ops.size → listed.size = ops.size → (∀ j, listed.getD j false = decide (j < k)) →
    wpAny P .any ops Q m listed a w → wpOps P ops Q (List.range' k m) a w
  | 0, _, _, _, _, _, _, _, h => h.2
  | m + 1, k, listed, a, w, hk, hsz, hl, h => by
    have hkl : k < listed.size := by omega
    have hr : k ∈ Region.ready .any ops listed := by
      refine mem_ready.2 ⟨?_, ops[k]'(by omega), Array.getElem?_eq_getElem (by omega), fun e he hb => ?_⟩
      · have := hl k
        simp [hkl] at this ⊢
        exact this
      · have := ((relB_spec hB).2 k _ (Array.getElem?_eq_getElem (by omega))).1 e he hb
        rw [hl]
        exact decide_eq_true this
    rw [List.range'_succ, wpOps_cons]
    refine wpOp_mono (fun a w h => any_lex hB m (k + 1) _ a w (by omega) (by simpa using hsz) (fun j => ?_) h) (h.2 k hr)
    by_cases e : k = j
    · subst e; simp [hkl]
    · rw [getD_set_ne false e, hl]
      exact decide_eq_decide.2 (by omega)
theorem region_rel {P : Program} {id : Nat} {Q : Exit → Act → World → Prop} {a : Act} {w : World} {l : List Oper} {b : Bool} (hm : P.follows .mixedOrders = true) (hB : relB l.toArray = true)
    (h : wpRel P l.toArray w (fun a' w' => Q .normal a' w') l 0 (fun _ => a) []) : (Code.region id l.toArray b).wp P Q a w := by
  obtain ⟨Rs, e1, e2, _, e4, e5⟩ := plan hB a _ l 0 (fun _ => a) [] [] (fun r => r) (fun j _ => by simp) rfl (fun _ h => by cases h) (fun r => ⟨rfl, rfl, fun _ _ _ h => absurd h (by omega), fun _ _ => rfl⟩) (fun _ _ _ h => absurd h (by omega)) (fun _ h => by cases h) h
  have hany : ∀ n : Held w, wpAny P .any l.toArray Q l.toArray.size (Array.replicate l.toArray.size false) a n.w := fun n => by
    refine anyRel (W := w) (a0 := a) (Rs := Rs) hB e2 (fun i o ho => e4 i o (Nat.zero_le _) ho ?_) (by simpa using e1) (fun r n a ha hr => e5 r n a (by simpa using ha) (by simpa using hr)) _ _ _ n (fun _ => undef) (by simp) ?_ ?_ ?_ ?_
    · have := (Array.getElem?_eq_some_iff.1 ho).1
      simpa using this
    · refine Nat.le_trans List.countP_le_length (by simp)
    · intro j o _ h
      exfalso
      rcases Nat.lt_or_ge j l.length with h' | h'
      · simp [h'] at h
      · simp [Array.getElem?_eq_none, h'] at h
    · refine ⟨rfl, rfl, fun j d _ h => ?_, fun _ _ => rfl⟩
      rcases Nat.lt_or_ge j l.length with h' | h'
      · simp [h'] at h
      · simp [Array.getElem?_eq_none, h'] at h
    · intro j h
      rcases Nat.lt_or_ge j l.length with h' | h'
      · simp [h'] at h
      · simp [Array.getElem?_eq_none, h'] at h
  cases b
  · refine wp_region ?_
    rw [List.range_eq_range']
    refine any_lex hB _ 0 _ a w (by simp) (by simp) (fun j => ?_) (hany ⟨w, Below.refl _ _⟩)
    rcases Nat.lt_or_ge j l.length with h' | h'
    · simp [h']
    · simp [Array.getElem?_eq_none, h']
  · exact wp_region_any hm (hany ⟨w.drew, (Below.refl _ _).drew⟩)
section
variable {α : Type} {enc : α → List Value} {K : Nat}
def RowsAt (enc : α → List Value) (K : Nat) (w : World) (a : Option Addr) (l : List α) : Prop :=
  0 < l.length → ∃ b off, a = some ⟨b, off, none⟩ ∧ b < w.heap.size ∧ ∀ i x, l[i]? = some x → ∀ r, r < K → w.cell? ⟨b, off + i * K + r, none⟩ = (enc x)[r]?
theorem RowsAt.mono {w w' : World} {a : Option Addr} {l : List α} (h : RowsAt enc K w a l) (hb : Below w.heap.size w w') : RowsAt enc K w' a l := fun h0 => by
  obtain ⟨b, off, e, hlt, hc⟩ := h h0
  refine ⟨b, off, e, Nat.lt_of_lt_of_le hlt hb.size, fun i x hx r hr => ?_⟩
  rw [hb.cell (p := ⟨b, _, none⟩) hlt]
  exact hc i x hx r hr
theorem RowsAt.nil {w : World} {a : Option Addr} : RowsAt enc K w a [] := fun h => absurd h (Nat.lt_irrefl 0)
def NilOk (a : Option Addr) (n k : Nat) : Prop := a = none → n = 0 ∧ k = 0
def IsL (enc : α → List Value) (K : Nat) (l : List α) (v : Value) (w : World) : Prop := ∃ a k, v = .slice a l.length k ∧ NilOk a l.length k ∧ RowsAt enc K w a l
theorem IsL.of_own (hk : ∀ x, (enc x).length = K) (hK : 0 < K) {l : List α} {w : World} {base : Nat} {e : TypeId} {v : Value} (h : w.ownsRow base e K v l.length (l.flatMap enc)) : IsL enc K l v w := by
  have h0 := h
  obtain ⟨sp, cap, rfl, hc⟩ := own_rows hk h hK
  refine ⟨sp, cap, rfl, fun e => ?_, fun hp => ?_⟩
  · subst e
    obtain ⟨_, hv | ⟨g, cap', cur, hv, _⟩⟩ := h0
    · obtain ⟨hv, hl⟩ := hv
      simp only [Value.slice.injEq, true_and] at hv
      exact ⟨hl, hv.2⟩
    · simp at hv
  · obtain ⟨b, h1, _, h2, h3⟩ := hc hp
    exact ⟨b, 0, h1, h2, h3⟩
theorem flat_ones (h1 : ∀ x, ∀ u ∈ enc x, u.oneCell' = true) (l : List α) : ∀ u ∈ l.flatMap enc, u.oneCell' = true := by
  intro u hu
  rw [List.mem_flatMap] at hu
  obtain ⟨x, _, hx⟩ := hu
  exact h1 x u hx
theorem RowsAt.news (hk : ∀ x, (enc x).length = K) {w : World} {a : Option Addr} {l : List α} (h : RowsAt enc K w a l) : ∀ q, a = some q → ∀ j u, (l.flatMap enc)[j]? = some u → w.cell? (q.add j) = some u := by
  intro q hq j u hu
  have hj : j < l.length * K := by rw [← rows_length enc K hk l]; exact (List.getElem?_eq_some_iff.1 hu).1
  have hK : 0 < K := Nat.pos_of_ne_zero fun e => by subst e; omega
  have hi : j / K < l.length := Nat.div_lt_of_lt_mul (by rw [Nat.mul_comm]; exact hj)
  obtain ⟨b, off, rfl, _, hc⟩ := h (Nat.lt_of_le_of_lt (Nat.zero_le _) hi)
  cases hq
  have hr : j % K < K := Nat.mod_lt _ hK
  have e : j = j / K * K + j % K := by rw [Nat.mul_comm]; exact (Nat.div_add_mod j K).symm
  have hx : l[j / K]? = some l[j / K] := List.getElem?_eq_getElem hi
  rw [Go.WideShapes.add_plain, e, ← Nat.add_assoc, hc _ _ hx _ hr]
  rw [e, rows_get enc K hk _ _ _ _ hx hr] at hu
  exact hu
theorem RowsAt.new (hk : ∀ x, (enc x).length = K) (w : World) (l : List α) (t : TypeId) : RowsAt enc K (w.alloc (.cells (l.flatMap enc).toArray t)) (some ⟨w.heap.size, 0, none⟩) l := fun _ => by
  refine ⟨_, _, rfl, by simp, fun i x hx r hr => ?_⟩
  rw [Nat.zero_add, World.cell?_alloc_at _ _ _ _ rfl]
  have := rows_get enc K hk l i r x hx hr
  simpa using this
theorem take_at {l : List α} {k : Nat} {x : α} (h : l[k]? = some x) : l.take (k + 1) = l.take k ++ [x] := by
  rw [List.take_add_one, h]
  rfl
theorem lt_at {l : List α} {k : Nat} {x : α} (h : l[k]? = some x) : k < l.length := (List.getElem?_eq_some_iff.1 h).1
theorem mem_at {l : List α} {k : Nat} (h : k < l.length) : ∃ x, l[k]? = some x := ⟨_, List.getElem?_eq_getElem h⟩
end
def Gives (w : World) (R : Value → World → Prop) (e : Ending) (w' : World) : Prop := (∃ v, e = .returned v ∧ R v w') ∧ Below w.heap.size w w'
def OwnL {α : Type} (enc : α → List Value) (K base : Nat) (t : TypeId) (l : List α) (v : Value) (w : World) : Prop := w.ownsRow base t K v l.length (l.flatMap enc)
theorem OwnL.mono {α : Type} {enc : α → List Value} {K base base' : Nat} {t : TypeId} {l : List α} {v : Value} {w : World} (h : OwnL enc K base t l v w) (hb : base' ≤ base) : OwnL enc K base' t l v w := by
  obtain ⟨hl, hv | ⟨g, cap, cur, rfl, hg, r⟩⟩ := h
  · exact ⟨hl, .inl hv⟩
  · exact ⟨hl, .inr ⟨g, cap, cur, rfl, Nat.le_trans hb hg, r⟩⟩
theorem OwnL.isL {α : Type} {enc : α → List Value} {K base : Nat} {t : TypeId} (hk : ∀ x, (enc x).length = K) (hK : 0 < K) {l : List α} {v : Value} {w : World} (h : OwnL enc K base t l v w) : IsL enc K l v w := IsL.of_own hk hK h
def aheadOf (acc : List Nat) (o : Oper) : Nat := o.after.toList.foldl (fun m e => if Region.binds .any e then m ||| (1 <<< e.on ||| acc.getD e.on 0) else m) 0
def masks : List Oper → List Nat → List Nat
  | [], acc => acc
  | o :: l, acc => masks l (acc ++ [aheadOf acc o])
def tailB (l : List Oper) (m : Nat) : Bool := decide (m ≤ l.length) && (List.range l.length).all fun i => decide (i < m) || (List.range i).all fun j => ((masks l []).getD i 0).testBit j
def Closed (ops : Array Oper) (L : Nat → Prop) : Prop := ∀ j o, ops[j]? = some o → L j → ∀ e ∈ o.after, Region.binds .any e = true → L e.on
theorem ahead_fold (acc : List Nat) (j : Nat) : ∀ (es : List Edge) (m : Nat), (es.foldl (fun m e => if Region.binds .any e then m ||| (1 <<< e.on ||| acc.getD e.on 0) else m) m).testBit j = true →
    m.testBit j = true ∨ ∃ e ∈ es, Region.binds .any e = true ∧ (e.on = j ∨ (acc.getD e.on 0).testBit j = true)
  | [], m, h => .inl h
  | e :: es, m, h => by
    rw [List.foldl_cons] at h
    rcases ahead_fold acc j es _ h with h | ⟨x, hx, hb, hj⟩
    · by_cases hb : Region.binds .any e = true
      · rw [if_pos hb, Nat.testBit_or, Nat.testBit_or, Bool.or_eq_true, Bool.or_eq_true] at h
        rcases h with h | h | h
        · exact .inl h
        · refine .inr ⟨e, List.mem_cons_self, hb, .inl ?_⟩
          rw [Nat.shiftLeft_eq, Nat.one_mul, Nat.testBit_two_pow] at h
          simpa using h
        · exact .inr ⟨e, List.mem_cons_self, hb, .inr h⟩
      · rw [if_neg hb] at h
        exact .inl h
    · exact .inr ⟨x, List.mem_cons_of_mem _ hx, hb, hj⟩
theorem masks_ok {ops : Array Oper} {L : Nat → Prop} (hc : Closed ops L) : ∀ (l : List Oper) (acc : List Nat), (∀ j, l[j]? = ops[acc.length + j]?) →
    (∀ i o, i < acc.length → ops[i]? = some o → (∀ e ∈ o.after, Region.binds .any e = true → L e.on) → ∀ j, (acc.getD i 0).testBit j = true → L j) →
    ∀ i o, i < acc.length + l.length → ops[i]? = some o → (∀ e ∈ o.after, Region.binds .any e = true → L e.on) → ∀ j, ((masks l acc).getD i 0).testBit j = true → L j
  | [], acc, _, h, i, o, hi, ho, hL, j, hj => h i o (by simpa using hi) ho hL j hj
  | x :: l, acc, hl, h, i, o, hi, ho, hL, j, hj => by
    have h0 : ops[acc.length]? = some x := by simpa using (hl 0).symm
    refine masks_ok hc l (acc ++ [aheadOf acc x]) (fun j => ?_) (fun i o hi ho hL j hj => ?_) i o (by simp at hi ⊢; omega) ho hL j hj
    · have := hl (j + 1)
      simpa [Nat.add_assoc, Nat.add_comm 1 j] using this
    · by_cases e : i < acc.length
      · rw [List.getD_eq_getElem?_getD, List.getElem?_append_left e, ← List.getD_eq_getElem?_getD] at hj
        exact h i o e ho hL j hj
      · obtain rfl : i = acc.length := by simp at hi; omega
        obtain rfl : o = x := Option.some.inj (ho.symm.trans h0)
        rw [List.getD_eq_getElem?_getD, List.getElem?_append_right (Nat.le_refl _)] at hj
        simp only [Nat.sub_self, List.getElem?_cons_zero, Option.getD_some] at hj
        rcases ahead_fold acc j _ _ hj with hz | ⟨e, he, hb, hj⟩
        · simp at hz
        · have hLe := hL e (by simpa using he) hb
          rcases hj with rfl | hj
          · exact hLe
          · by_cases hea : e.on < acc.length
            · have hoe : ∃ oe, ops[e.on]? = some oe := by
                rcases Nat.lt_or_ge e.on ops.size with h1 | h1
                · exact ⟨_, Array.getElem?_eq_getElem h1⟩
                · have := (Array.getElem?_eq_some_iff.1 h0).1
                  omega
              obtain ⟨oe, hoe⟩ := hoe
              exact h e.on oe hea hoe (hc e.on oe hoe hLe) j hj
            · rw [List.getD_eq_getElem?_getD, List.getElem?_eq_none (by omega)] at hj
              simp at hj
section
variable {P : Program} {ops : Array Oper} {W : World}
theorem any_tail {Q : Exit → Act → World → Prop} {m : Nat} (hone : ∀ k listed, (∀ j, listed.getD j false = decide (j < k)) → listed.size = ops.size → m ≤ k → ∀ i ∈ Region.ready .any ops listed, i = k) :
    ∀ (fuel k : Nat) (listed : Array Bool) (a : Act) (w : World), m ≤ k → k + fuel = ops.size → listed.size = ops.size → (∀ j, listed.getD j false = decide (j < k)) → (fuel = 0 ∨ k ∈ Region.ready .any ops listed) →
      (∀ k' listed', k ≤ k' → k' < ops.size → listed'.size = ops.size → (∀ j, listed'.getD j false = decide (j < k')) → k' ∈ Region.ready .any ops listed') →
      wpOps P ops Q (List.range' k fuel) a w → wpAny P .any ops Q fuel listed a w
  | 0, k, listed, a, w, hm, hk, hsz, hl, _, _, h => by
    refine ⟨?_, h⟩
    cases hx : Region.ready .any ops listed with
    | nil => rfl
    | cons i xs =>
      exfalso
      have hi : i ∈ Region.ready .any ops listed := by rw [hx]; exact List.mem_cons_self
      have := hone k listed hl hsz hm i hi
      obtain ⟨_, o, ho, _⟩ := mem_ready.1 hi
      have := (Array.getElem?_eq_some_iff.1 ho).1
      omega
  | fuel + 1, k, listed, a, w, hm, hk, hsz, hl, hr, hall, h => by
    have hkr := hr.resolve_left (by omega)
    refine ⟨(fun hnil => by rw [hnil] at hkr; cases hkr), fun i hi => ?_⟩
    obtain rfl : i = k := hone k listed hl hsz hm i hi
    rw [List.range'_succ, wpOps_cons] at h
    have hset : ∀ j, (listed.setIfInBounds i true).getD j false = decide (j < i + 1) := fun j => by
      have hil : i < listed.size := by omega
      by_cases e : i = j
      · subst e; simp [hil]
      · rw [getD_set_ne false e, hl]
        exact decide_eq_decide.2 (by omega)
    refine wpOp_mono (fun a w h => any_tail hone fuel (i + 1) _ a w (by omega) (by omega) (by simpa using hsz) hset ?_ (fun k' l' h1 => hall k' l' (by omega)) h) h
    by_cases e : fuel = 0
    · exact .inl e
    · exact .inr (hall (i + 1) _ (by omega) (by omega) (by simpa using hsz) hset)
theorem cnt_set (f : Nat → Bool) (i : Nat) (hf : f i = false) : ∀ n, (List.range n).countP (fun j => decide (j = i) || f j) = (List.range n).countP f + if i < n then 1 else 0
  | 0 => by simp
  | n + 1 => by
    rw [List.range_succ, List.countP_append, List.countP_append, cnt_set f i hf n]
    by_cases e : n = i
    · subst e; simp [hf]
    · by_cases h : i < n
      · simp [e, h, show i < n + 1 by omega]; omega
      · simp [e, h, show ¬ i < n + 1 by omega]
theorem cnt_first (m : Nat) : ∀ n, m ≤ n → (List.range n).countP (fun j => decide (j < m)) = m
  | 0, h => by obtain rfl : m = 0 := by omega
               rfl
  | n + 1, h => by
    rw [List.range_succ, List.countP_append]
    by_cases e : m ≤ n
    · rw [cnt_first m n e]; simp; omega
    · obtain rfl : m = n + 1 := by omega
      have : (List.range n).countP (fun j => decide (j < n + 1)) = (List.range n).length := List.countP_eq_length.2 fun j hj => by
        have := List.mem_range.1 hj
        simp; omega
      rw [this]; simp
theorem anyRelT (hB : relB ops = true) {m : Nat} (hmn : m ≤ ops.size) (hT : ∀ L : Nat → Prop, Closed ops L → ∀ i o, m ≤ i → ops[i]? = some o → (∀ e ∈ o.after, Region.binds .any e = true → L e.on) → ∀ j, j < i → L j)
    {a0 : Act} {Q : Exit → Act → World → Prop} {Rs : List Rel} (hst : ∀ R ∈ Rs, Stays R)
    (hop : ∀ i o, i < m → ops[i]? = some o → opSpec P ops W a0 Rs i o)
    (hQ : ∀ r (n : Held W) a, Agree ops a0 a (· < m) r → (∀ j, j < m → (Rs.getD j fun _ _ => True) (r j) n.w) → wpOps P ops Q (List.range' m (ops.size - m)) a n.w) :
    ∀ (fuel : Nat) (listed : Array Bool) (a : Act) (n : Held W) (r : Nat → Value), listed.size = ops.size → fuel + (List.range ops.size).countP (fun i => listed.getD i false) = ops.size →
      (∀ j, m ≤ j → listed.getD j false = false) → Closed ops (fun j => listed.getD j false = true) →
      Agree ops a0 a (fun j => listed.getD j false = true) r → (∀ j, listed.getD j false = true → (Rs.getD j fun _ _ => True) (r j) n.w) → wpAny P .any ops Q fuel listed a n.w := by
  have hunl : ∀ (listed : Array Bool) (i : Nat), listed.size = ops.size → i < ops.size → listed.getD i true = false → listed.getD i false = false := fun listed i hsz hi h => by
    have hil : i < listed.size := by omega
    simp [hil] at h ⊢
    exact h
  have hone : ∀ k listed, (∀ j, listed.getD j false = decide (j < k)) → listed.size = ops.size → m ≤ k → ∀ i ∈ Region.ready .any ops listed, i = k := by
    intro k listed hl hsz hmk i hi
    obtain ⟨h0, o, ho, hall⟩ := mem_ready.1 hi
    have hio : i < ops.size := (Array.getElem?_eq_some_iff.1 ho).1
    have h1 := hunl listed i hsz hio h0
    rw [hl] at h1
    have hki : ¬ i < k := by simpa using h1
    by_cases e : i = k
    · exact e
    · have hcl : Closed ops (fun j => listed.getD j false = true) := fun j o ho hj e he hb => by
        show listed.getD e.on false = true
        have hj : listed.getD j false = true := hj
        rw [hl] at hj ⊢
        have := ((relB_spec hB).2 j o ho).1 e he hb
        simp at hj ⊢
        omega
      have := hT _ hcl i o (by omega) ho hall k (by omega)
      rw [hl] at this
      simp at this
  have hall' : ∀ k' (listed' : Array Bool), k' < ops.size → listed'.size = ops.size → (∀ j, listed'.getD j false = decide (j < k')) → k' ∈ Region.ready .any ops listed' := by
    intro k listed hk hsz hl
    have hkl : k < listed.size := by omega
    refine mem_ready.2 ⟨?_, ops[k], Array.getElem?_eq_getElem hk, fun e he hb => ?_⟩
    · have := hl k
      simp [hkl] at this ⊢
      exact this
    · have := ((relB_spec hB).2 k _ (Array.getElem?_eq_getElem hk)).1 e he hb
      rw [hl]
      exact decide_eq_true this
  have hfin : ∀ (fuel : Nat) (listed : Array Bool) (a : Act) (n : Held W) (r : Nat → Value), listed.size = ops.size → fuel + (List.range ops.size).countP (fun i => listed.getD i false) = ops.size →
      (∀ j, listed.getD j false = decide (j < m)) → Agree ops a0 a (fun j => listed.getD j false = true) r → (∀ j, listed.getD j false = true → (Rs.getD j fun _ _ => True) (r j) n.w) → wpAny P .any ops Q fuel listed a n.w := by
    intro fuel listed a n r hsz hc hl ha hr
    have e1 : (fun i => listed.getD i false) = fun i => decide (i < m) := funext hl
    rw [e1, cnt_first m ops.size hmn] at hc
    have e2 : (fun j => listed.getD j false = true) = (· < m) := funext fun j => propext (by rw [hl]; simp)
    rw [e2] at ha
    have hq := hQ r n a ha fun j hj => hr j (by rw [hl]; exact decide_eq_true hj)
    obtain rfl : fuel = ops.size - m := by omega
    refine any_tail hone _ m listed a n.w (Nat.le_refl m) (by omega) hsz hl ?_ (fun k' l' _ h2 h3 h4 => hall' k' l' h2 h3 h4) hq
    by_cases e : ops.size - m = 0
    · exact .inl e
    · exact .inr (hall' m listed (by omega) hsz hl)
  intro fuel
  induction fuel with
  | zero =>
    intro listed a n r hsz hc hno hcl ha hr
    have hfull : ∀ j, j < ops.size → listed.getD j false = true := fun j hj => by
      have : (List.range ops.size).countP (fun i => listed.getD i false) = (List.range ops.size).length := by simpa using hc
      exact List.countP_eq_length.1 this j (List.mem_range.2 hj)
    refine hfin 0 listed a n r hsz hc (fun j => ?_) ha hr
    by_cases e : j < m
    · rw [hfull j (by omega)]; simp [e]
    · rw [hno j (by omega)]; simp [e]
  | succ fuel ih =>
    intro listed a n r hsz hc hno hcl ha hr
    by_cases hpre : ∀ j, j < m → listed.getD j false = true
    · refine hfin (fuel + 1) listed a n r hsz hc (fun j => ?_) ha hr
      by_cases e : j < m
      · rw [hpre j e]; simp [e]
      · rw [hno j (by omega)]; simp [e]
    · have hlow : ∀ i ∈ Region.ready .any ops listed, i < m := fun i hi => by
        obtain ⟨h0, o, ho, hall⟩ := mem_ready.1 hi
        rcases Nat.lt_or_ge i m with h | h
        · exact h
        · exact absurd (fun j hj => hT _ hcl i o h ho hall j (by omega)) hpre
      refine ⟨fun hnil => ?_, fun i hi => ?_⟩
      · exfalso
        refine hpre fun j hj => ?_
        have hall : ∀ q i, i < q → i < m → listed.getD i false = true := by
          intro q
          induction q with
          | zero => intro i h; omega
          | succ q ihq =>
            intro i hiq him
            by_cases hl : listed.getD i false = true
            · exact hl
            · exfalso
              have : i ∈ Region.ready .any ops listed := by
                refine mem_ready.2 ⟨?_, ops[i], Array.getElem?_eq_getElem (by omega), fun e he hb => ?_⟩
                · have hil : i < listed.size := by omega
                  simp [hil] at hl ⊢
                  exact hl
                · have h1 := ((relB_spec hB).2 i ops[i] (Array.getElem?_eq_getElem (by omega))).1 e he hb
                  exact ihq e.on (by omega) (by omega)
              rw [hnil] at this
              cases this
        exact hall (j + 1) j (by omega) hj
      · have him := hlow i hi
        refine rel_step hB hst (fun o ho => hop i o him ho) hsz ha hr hi hcl fun a' n' r' ha' hr' => ih _ a' n' r' (by simpa using hsz) ?_ (fun j hj => ?_) ?_ ha' hr'
        · obtain ⟨h0, o, ho, _⟩ := mem_ready.1 hi
          have hio : i < ops.size := (Array.getElem?_eq_some_iff.1 ho).1
          have hil : i < listed.size := by omega
          have h1 := hunl listed i hsz hio h0
          have e : (fun j => (listed.setIfInBounds i true).getD j false) = fun j => decide (j = i) || listed.getD j false := funext fun j => by
            by_cases e : i = j
            · subst e; simp [hil]
            · rw [getD_set_ne false e]; simp [Ne.symm e]
          rw [e, cnt_set _ i h1, if_pos hio]
          omega
        · rw [getD_set_ne false (by omega)]
          exact hno j hj
        · intro j o ho hj e he hb
          by_cases e1 : i = j
          · subst e1
            obtain ⟨_, o', ho', hall⟩ := mem_ready.1 hi
            obtain rfl : o = o' := Option.some.inj (ho.symm.trans ho')
            exact getD_set_true (hall e he hb)
          · rw [getD_set_ne false e1] at hj
            exact getD_set_true (hcl j o ho hj e he hb)
theorem region_rel_tail {id : Nat} {Q : Exit → Act → World → Prop} {a : Act} {w : World} {l : List Oper} {b : Bool} (m : Nat) (hm : P.follows .mixedOrders = true) (hB : relB l.toArray = true) (hT : tailB l m = true)
    (h : wpRel P l.toArray w (fun a' w' => wpList P l.toArray Q (l.drop m) a' w') (l.take m) 0 (fun _ => a) []) : (Code.region id l.toArray b).wp P Q a w := by
  unfold tailB at hT
  rw [Bool.and_eq_true, decide_eq_true_eq, List.all_eq_true] at hT
  obtain ⟨hml, hT⟩ := hT
  have hlen : (l.take m).length = m := by rw [List.length_take]; omega
  have hsub : ∀ j, j < m → (l.take m)[j]? = l[j]? := fun j hj => by rw [List.getElem?_take, if_pos hj]
  obtain ⟨Rs, e1, e2, _, e4, e5⟩ := plan hB a _ (l.take m) 0 (fun _ => a) [] [] (fun r => r) (fun j hj => by rw [hsub j (by omega)]; simp) rfl (fun _ h => by cases h) (fun r => ⟨rfl, rfl, fun _ _ _ h => absurd h (by omega), fun _ _ => rfl⟩) (fun _ _ _ h => absurd h (by omega)) (fun _ h => by cases h) h
  rw [hlen, Nat.zero_add] at e1 e4 e5
  have hcl : ∀ L : Nat → Prop, Closed l.toArray L → ∀ i o, m ≤ i → l.toArray[i]? = some o → (∀ e ∈ o.after, Region.binds .any e = true → L e.on) → ∀ j, j < i → L j := by
    intro L hc i o hmi ho hL j hj
    have hil : i < l.length := by simpa using (Array.getElem?_eq_some_iff.1 ho).1
    have h1 := hT i (List.mem_range.2 hil)
    rw [Bool.or_eq_true, decide_eq_true_eq, List.all_eq_true] at h1
    have h2 := (h1.resolve_left (by omega)) j (List.mem_range.2 hj)
    exact masks_ok hc l [] (fun j => by simp) (fun i o h => absurd h (by simp)) i o (by simpa using hil) ho hL j h2
  have hany : ∀ n : Held w, wpAny P .any l.toArray Q l.toArray.size (Array.replicate l.toArray.size false) a n.w := fun n => by
    have hrep : ∀ j, (Array.replicate l.toArray.size false).getD j false = false := fun j => by
      rcases Nat.lt_or_ge j l.length with h' | h'
      · simp [h']
      · simp [Array.getElem?_eq_none, h']
    refine anyRelT (W := w) (a0 := a) (Rs := Rs) hB (by simpa using hml) hcl e2 (fun i o hi ho => e4 i o (Nat.zero_le _) ho hi) (fun r n a ha hr => ?_) _ _ _ n (fun _ => undef) (by simp) ?_ (fun j _ => hrep j) (fun j o ho hj => ?_) ?_ ?_
    · have := e5 r n a ha hr
      have hx := wpOps_eq_wpList (P := P) (ops := l.toArray) (Q := Q) (l.drop m) m (fun j => by simp [List.getElem?_drop])
      have hz : l.toArray.size - m = (l.drop m).length := by simp
      rw [hz, hx]
      exact this
    · have : (List.range l.toArray.size).countP (fun i => (Array.replicate l.toArray.size false).getD i false) = 0 := by
        rw [List.countP_eq_zero]
        intro j _
        rw [hrep j]; simp
      rw [this, Nat.add_zero]
    · exact absurd (show (Array.replicate l.toArray.size false).getD j false = true from hj) (by rw [hrep j]; simp)
    · exact ⟨rfl, rfl, fun j d _ h => absurd (show (Array.replicate l.toArray.size false).getD j false = true from h) (by rw [hrep j]; simp), fun _ _ => rfl⟩
    · exact fun j h => absurd h (by rw [hrep j]; simp)
  cases b
  · refine wp_region ?_
    rw [List.range_eq_range']
    exact any_lex hB _ 0 _ a w (by simp) (by simp) (fun j => by
      rcases Nat.lt_or_ge j l.length with h' | h'
      · simp [h']
      · simp [Array.getElem?_eq_none, h']) (hany ⟨w, Below.refl _ _⟩)
  · exact wp_region_any hm (hany ⟨w.drew, (Below.refl _ _).drew⟩)
end
section
variable {α : Type} {enc : α → List Value} {K : Nat}
theorem open_nested {H : Type} {ec : TypeId × Value → H} {P : Program} {W : World} {t e : TypeId} {fuel : Nat} {a : Option Addr} {len cap : Nat} {y : DataW H × List MemPlace}
    (ht : P.underlying t = some (.slice e)) (hE : P.cellsOf e = K) (hE0 : 0 < K)
    (hdec : ∀ (cs : List Value) (fuel : Nat) (y : DataW H × List MemPlace), cs.length = K → DataW.trod ec P W 0 (fun _ => true) true fuel e cs = some y → ∃ x, cs = enc x)
    (h : DataW.trod ec P W 0 (fun _ => true) true fuel t [.slice a len cap] = some y) :
    ∃ l : List α, l.length = len ∧ RowsAt enc K W a l ∧ len ≤ maxLen := by
  rcases Go.Deep.open_slice ht h with ⟨hcs, _⟩ | ⟨a', len', cap', m, n, D, Pl, hcs, _, hl, hm, hmm, _, hi⟩
  · have e1 : a = none ∧ len = 0 ∧ cap = 0 := by simpa using hcs
    obtain ⟨rfl, rfl, rfl⟩ := e1
    exact ⟨[], rfl, RowsAt.nil, Nat.zero_le _⟩
  · have e1 : a = some a' ∧ len = len' ∧ cap = cap' := by simpa using hcs
    obtain ⟨rfl, rfl, rfl⟩ := e1
    rw [hE] at hi
    have hmc : m = cap := by simpa using hmm
    by_cases h0 : len = 0
    · subst h0
      exact ⟨[], rfl, RowsAt.nil, Nat.zero_le _⟩
    · obtain ⟨b, off, spot⟩ := a'
      have hrow : ∀ i, i < len → ∃ x : α, ∀ j, j < K → W.cell? ((Addr.add ⟨b, off, spot⟩ (i * K)).add j) = (enc x)[j]? := by
        intro i hil
        obtain ⟨cs', hc, ht'⟩ := hi i (by omega)
        obtain ⟨_, hcl, hat⟩ := World.cells?_some hc
        obtain ⟨x, rfl⟩ := hdec cs' _ _ hcl ht'
        exact ⟨x, hat⟩
      have hone : ∃ cs' : List Value, cs'.length = K ∧ ∀ j, j < K → W.cell? ((Addr.add ⟨b, off, spot⟩ (0 * K)).add j) = cs'[j]? := by
        obtain ⟨cs', hc, ht'⟩ := hi 0 (by omega)
        obtain ⟨_, hcl, hat⟩ := World.cells?_some hc
        exact ⟨cs', hcl, hat⟩
      obtain ⟨cs0, hcl0, hat0⟩ := hone
      have hc0 := hat0 0 hE0
      rw [List.getElem?_eq_getElem (by omega)] at hc0
      have hspot : spot = none := by simpa [Addr.add] using World.cell?_spot hc0
      subst hspot
      have hb : b < W.heap.size := by simpa [Addr.add] using World.block_lt_of_cell? _ _ hc0
      have hD : ∀ m, m ≤ len → ∃ l : List α, l.length = m ∧ ∀ i x, l[i]? = some x → ∀ j, j < K → W.cell? ⟨b, off + i * K + j, none⟩ = (enc x)[j]? := by
        intro m
        induction m with
        | zero => exact fun _ => ⟨[], rfl, fun i x hx => by simp at hx⟩
        | succ m ih =>
          intro hm
          obtain ⟨l, hl, hc⟩ := ih (by omega)
          obtain ⟨x, hcs⟩ := hrow m (by omega)
          refine ⟨l ++ [x], by simp [hl], fun i z hz j hj => ?_⟩
          by_cases hi : i < l.length
          · rw [List.getElem?_append_left hi] at hz
            exact hc i z hz j hj
          · rw [List.getElem?_append_right (by omega)] at hz
            have h0 : i - l.length = 0 := by
              have := (List.getElem?_eq_some_iff.1 hz).1
              simp at this
              omega
            rw [h0] at hz
            obtain rfl : x = z := by simpa using hz
            obtain rfl : i = m := by omega
            rw [← hcs j hj, Go.WideShapes.add_plain, Go.WideShapes.add_plain]
      obtain ⟨l, hl', hc⟩ := hD len (Nat.le_refl _)
      exact ⟨l, hl', fun _ => ⟨b, off, rfl, hb, hc⟩, by unfold maxLen at *; omega⟩
end
theorem nested_cap {H : Type} {ec : TypeId × Value → H} {P : Program} {W : World} {t e : TypeId} {fuel : Nat} {a : Option Addr} {len cap : Nat} {y : DataW H × List MemPlace}
    (ht : P.underlying t = some (.slice e)) (h : DataW.trod ec P W 0 (fun _ => true) true fuel t [.slice a len cap] = some y) : NilOk a len cap ∧ len ≤ cap := by
  rcases Go.Deep.open_slice ht h with ⟨hcs, _⟩ | ⟨a', len', cap', m, n, D, Pl, hcs, _, hl, hm, hmm, _, hi⟩
  · have e1 : a = none ∧ len = 0 ∧ cap = 0 := by simpa using hcs
    obtain ⟨rfl, rfl, rfl⟩ := e1
    exact ⟨fun _ => ⟨rfl, rfl⟩, Nat.le_refl _⟩
  · have e1 : a = some a' ∧ len = len' ∧ cap = cap' := by simpa using hcs
    obtain ⟨rfl, rfl, rfl⟩ := e1
    have hmc : m = cap := by simpa using hmm
    exact ⟨(fun h => by cases h), by omega⟩
structure Only (S : List Nat) (w w' : World) : Prop where
  os : w'.os = w.os
  tape : w'.tape = w.tape
  output : w'.output = w.output
  size : w.heap.size ≤ w'.heap.size
  block : ∀ k, k < w.heap.size → k ∉ S → w'.heap[k]? = w.heap[k]?
section
variable {S T : List Nat} {a w w' : World}
theorem Only.refl (S : List Nat) (w : World) : Only S w w := ⟨rfl, rfl, rfl, Nat.le_refl _, fun _ _ _ => rfl⟩
theorem Only.trans (h : Only S a w) (k : Only S w w') : Only S a w' :=
  ⟨k.os.trans h.os, k.tape.trans h.tape, k.output.trans h.output, Nat.le_trans h.size k.size, fun i hi hs => (k.block i (Nat.lt_of_lt_of_le hi h.size) hs).trans (h.block i hi hs)⟩
theorem Only.mono (h : Only S a w) (hs : ∀ k ∈ S, k ∈ T) : Only T a w := ⟨h.os, h.tape, h.output, h.size, fun k hk hn => h.block k hk fun e => hn (hs k e)⟩
theorem Only.step (h : Only S a w) (hb : Below a.heap.size w w') : Only S a w' :=
  ⟨hb.os.trans h.os, hb.tape.trans h.tape, hb.output.trans h.output, Nat.le_trans h.size hb.size, fun i hi hs => (hb.block i hi).trans (h.block i hi hs)⟩
theorem Only.of_below (hb : Below w.heap.size w w') : Only S w w' := (Only.refl S w).step hb
theorem Only.drew (h : Only S a w) : Only S a w.drew := h.step (Below.refl _ _).drew
theorem Only.alloc (h : Only S a w) (o : Obj) : Only S a (w.alloc o) := h.step ((Below.refl _ w).alloc h.size o)
theorem Only.setCell (h : Only S a w) {p : Addr} (hp : p.block ∈ S ∨ a.heap.size ≤ p.block) (u : Value) : Only S a (w.setCell p u) :=
  ⟨h.os, h.tape, h.output, Nat.le_trans h.size (by simp [World.setCell]), fun i hi hs => (Below.heap_setCell _ _ _ _ (fun e => by
    rcases hp with hp | hp
    · exact hs (e ▸ hp)
    · omega)).trans (h.block i hi hs)⟩
theorem Only.grown {row : Option Nat} (h : Only S a w) (hg : w.grownBy w' row) (hr : ∀ k, row = some k → k ∈ S ∨ a.heap.size ≤ k) : Only S a w' :=
  ⟨hg.os.trans h.os, hg.tape.trans h.tape, hg.output.trans h.output, Nat.le_trans h.size hg.size, fun i hi hs => (hg.block i (Nat.lt_of_lt_of_le hi h.size) (fun e => by
    rcases hr i e.symm with hp | hp
    · exact hs hp
    · omega)).trans (h.block i hi hs)⟩
theorem Only.below {B : Nat} {w0 : World} (h : Only S w w') (hb : Below B w0 w) (hB : B ≤ w.heap.size) (hS : ∀ k ∈ S, B ≤ k) : Below B w0 w' :=
  ⟨h.os.trans hb.os, h.tape.trans hb.tape, h.output.trans hb.output, Nat.le_trans hb.size h.size, fun k hk => (h.block k (by omega) (fun e => by have := hS k e; omega)).trans (hb.block k hk)⟩
end
def Blk (w : World) (b : Nat) (t : TypeId) (cs : List Value) : Prop := w.heap[b]? = some (.cells cs.toArray t)
section
variable {w w' : World} {b : Nat} {t : TypeId} {cs : List Value}
theorem Blk.lt (h : Blk w b t cs) : b < w.heap.size := (Array.getElem?_eq_some_iff.1 h).1
theorem Blk.cell (h : Blk w b t cs) (i : Nat) : w.cell? ⟨b, i, none⟩ = cs[i]? := by
  unfold World.cell?
  rw [show w.heap[(⟨b, i, none⟩ : Addr).block]? = _ from h]
  simp
theorem Blk.frozen (h : Blk w b t cs) (i : Nat) : w.frozen? ⟨b, i, none⟩ = false := by
  unfold World.frozen?
  rw [show w.heap[(⟨b, i, none⟩ : Addr).block]? = _ from h]
  simp
theorem Blk.new (w : World) (t : TypeId) (cs : List Value) : Blk (w.alloc (.cells cs.toArray t)) w.heap.size t cs := by
  show (w.heap.push _)[w.heap.size]? = _
  simp
theorem Blk.same (h : Blk w b t cs) (e : w'.heap[b]? = w.heap[b]?) : Blk w' b t cs := e.trans h
theorem Blk.below (h : Blk w b t cs) (hb : Below w.heap.size w w') : Blk w' b t cs := h.same (hb.block b h.lt)
theorem Blk.only {S : List Nat} (h : Blk w b t cs) (ho : Only S w w') (hs : b ∉ S) : Blk w' b t cs := h.same (ho.block b h.lt hs)
theorem Blk.alloc (h : Blk w b t cs) (o : Obj) : Blk (w.alloc o) b t cs := h.below ((Below.refl _ w).alloc (Nat.le_refl _) o)
theorem Blk.set (h : Blk w b t cs) (i : Nat) (v : Value) : Blk (w.setCell ⟨b, i, none⟩ v) b t (cs.set i v) := by
  unfold Blk
  show (w.heap.modify b _)[b]? = _
  have hl : b < w.heap.size := h.lt
  have hg : w.heap[b] = .cells cs.toArray t := (Array.getElem?_eq_some_iff.1 h).2
  rw [Array.getElem?_eq_getElem (by rw [Array.size_modify]; exact hl), Array.getElem_modify_self, hg]
  simp
theorem Blk.other (h : Blk w b t cs) {p : Addr} (hp : b ≠ p.block) (v : Value) : Blk (w.setCell p v) b t cs := h.same (Below.heap_setCell _ _ _ _ hp)
end
def relUponG (G : World → World → Prop) (P : Program) (R : Value → World → Prop) (w : World) : Result Next → Prop
  | .ok (.value u) w' => R u w' ∧ G w w'
  | .ok .skip w' => R undef w' ∧ G w w'
  | .ok (.enter f args) w' => Calls P f args w' fun e w'' => (∃ v, e = .returned v ∧ R v w'') ∧ G w w''
  | _ => False
def relAtG (G : World → World → Prop) (P : Program) (ops : Array Oper) (o : Oper) (a : Act) (w : World) (R : Value → World → Prop) : Prop :=
  if Region.wanted o (yielded ops a.tmps) then relUponG G P R w ((execOp a.eval o).run P w) else R undef w
def Cl (S : List Nat) (ia : Nat) (W : World) (i : Nat) (w : World) : Prop := if i = ia then Below W.heap.size W w else Only S W w
def Gl (S : List Nat) (ia : Nat) (i : Nat) (w w' : World) : Prop := if i = ia then Only S w w' else Below w.heap.size w w'
def StaysS (S : List Nat) (R : Value → World → Prop) : Prop := ∀ v w w', Only S w w' → R v w → R v w'
def StaysI (S : List Nat) (ia i : Nat) (R : Value → World → Prop) : Prop := if i = ia then Stays R else StaysS S R
theorem StaysI.const (S : List Nat) (ia i : Nat) (x : Value) : StaysI S ia i (fun v _ => v = x) := by
  unfold StaysI
  split
  · exact fun _ _ _ _ h => h
  · exact fun _ _ _ _ h => h
def wpTurn (P : Program) (ops : Array Oper) (S : List Nat) (ia : Nat) (W : World) (Q : Act → World → Prop) : List Oper → Nat → ((Nat → Value) → Act) → Told → Prop
  | [], _, F, Fs => ∀ r w, Only S W w → (∀ x ∈ Fs, x.2 (r x.1) w) → Q (F r) w
  | o :: rest, i, F, Fs =>
    (∃ x, (∀ r w, Cl S ia W i w → given o Fs r w → relAtG (Gl S ia i) P ops o (F r) w fun v _ => v = x) ∧ wpTurn P ops S ia W Q rest (i + 1) (fun r => (F r).put o.dst x) Fs) ∨
    (∃ R, StaysI S ia i R ∧ (∀ r w, Cl S ia W i w → given o Fs r w → relAtG (Gl S ia i) P ops o (F r) w R) ∧ wpTurn P ops S ia W Q rest (i + 1) (fun r => (F r).put o.dst (r i)) (Fs ++ [(i, R)]))
section
variable {P : Program} {ops : Array Oper} {S : List Nat} {ia : Nat} {W : World}
theorem relAtG_of_agree {G : World → World → Prop} (hB : relB ops = true) {a0 a b : Act} {L M : Nat → Prop} {r s : Nat → Value} {i : Nat} {o : Oper} (ho : ops[i]? = some o)
    (ha : Agree ops a0 a L r) (hb : Agree ops a0 b M s) (hL : ∀ j, behind o j = true → L j ∧ M j ∧ r j = s j) (hN : ∀ j oj, ops[j]? = some oj → behind oj i = true → ¬ L j ∧ ¬ M j) {w : World} {R : Value → World → Prop} (h : relAtG G P ops o a w R) : relAtG G P ops o b w R := by
  obtain ⟨hns, hs⟩ := relB_spec hB
  have hsel := fun cs bb => Region.noSelect_spec hns i o cs bb ho
  have hat : ∀ t, t ∈ o.looksAt ops → a.tmps[t]? = b.tmps[t]? := by
    intro t ht
    by_cases hx : ∃ j : Nat, (ops[j]?).bind (fun o => o.dst) = some t
    · obtain ⟨j, hj⟩ := hx
      rcases ((hs i o ho).2 j t hj).2 ht with hbh | ⟨oj, hoj, hbh⟩
      rotate_left
      · obtain ⟨n1, n2⟩ := hN j oj hoj hbh
        have huniq : ∀ j', (ops[j']?).bind (fun o => o.dst) = some t → j' = j := fun j' hj' => by
          by_cases e : j' = j
          · exact e
          · have hoj' : oj.dst = some t := by rw [hoj] at hj; exact hj
            exact absurd hoj' (((hs j oj hoj).2 j' t hj').1 (Ne.symm e))
        rw [ha.off t fun j' hj' => by rw [huniq j' hj']; exact n1, hb.off t fun j' hj' => by rw [huniq j' hj']; exact n2]
      obtain ⟨h1, h2, h3⟩ := hL j hbh
      by_cases hlt : t < a0.tmps.size
      · rw [ha.on j t hj h1 hlt, hb.on j t hj h2 hlt, h3]
      · have hge : a0.tmps.size ≤ t := Nat.le_of_not_lt hlt
        rw [Array.getElem?_eq_none (by rw [ha.size]; exact hge), Array.getElem?_eq_none (by rw [hb.size]; exact hge)]
    · rw [ha.off t fun j hj => absurd ⟨j, hj⟩ hx, hb.off t fun j hj => absurd ⟨j, hj⟩ hx]
  have he : execOp a.eval o = execOp b.eval o := execOp_congr o hsel fun x hx => by
    cases x with
    | tmp t =>
      have := hat t (List.mem_append_left _ (List.mem_filterMap.2 ⟨.tmp t, by simpa using hx, rfl⟩))
      simp [Act.eval, this]
    | _ => rfl
  have hw : Region.wanted o (yielded ops a.tmps) = Region.wanted o (yielded ops b.tmps) := by
    unfold Region.wanted
    cases hg : o.guard with
    | none => rfl
    | some gw =>
      obtain ⟨g, want⟩ := gw
      have hy : yielded ops a.tmps g = yielded ops b.tmps g := by
        unfold yielded
        cases ht : (ops[g]?).bind (·.dst) with
        | none => rfl
        | some t =>
          have := hat t (List.mem_append_right _ (by simp [hg, ht]))
          simp [this]
      simp only [hy]
  unfold relAtG at *
  rw [he, hw] at h
  exact h
def opTurn (P : Program) (ops : Array Oper) (S : List Nat) (ia : Nat) (W : World) (a0 : Act) (Rs : List Rel) (i : Nat) (o : Oper) : Prop :=
  ∀ a L r w, Cl S ia W i w → Agree ops a0 a L r → (∀ j, behind o j = true → L j ∧ (Rs.getD j fun _ _ => True) (r j) w) → (∀ j oj, ops[j]? = some oj → behind oj i = true → ¬ L j) → relAtG (Gl S ia i) P ops o a w (Rs.getD i fun _ _ => True)
theorem tplan (hB : relB ops = true) (a0 : Act) (Q : Act → World → Prop) : ∀ (l : List Oper) (k : Nat) (F : (Nat → Value) → Act) (Fs : Told) (Rs : List Rel) (hat : (Nat → Value) → Nat → Value),
    (∀ j, j < l.length → l[j]? = ops[k + j]?) → Rs.length = k → (∀ j R, Rs[j]? = some R → StaysI S ia j R) → (∀ r, Agree ops a0 (F r) (· < k) (hat r)) → (∀ r j w, j < k → (Rs.getD j fun _ _ => True) (r j) w → hat r j = r j) →
    (∀ x ∈ Fs, x.1 < k ∧ Rs[x.1]? = some x.2) → wpTurn P ops S ia W Q l k F Fs →
    ∃ Rs' : List Rel, Rs'.length = k + l.length ∧ (∀ j R, Rs'[j]? = some R → StaysI S ia j R) ∧ (∀ j, j < k → Rs'[j]? = Rs[j]?) ∧ (∀ i o, k ≤ i → ops[i]? = some o → i < k + l.length → opTurn P ops S ia W a0 Rs' i o) ∧
      ∀ r w a, Only S W w → Agree ops a0 a (· < k + l.length) r → (∀ j, j < k + l.length → (Rs'.getD j fun _ _ => True) (r j) w) → Q a w
  | [], k, F, Fs, Rs, hat, _, hlen, hst, hag, hhat, hFs, h => by
    refine ⟨Rs, by simpa using hlen, hst, fun _ _ => rfl, fun i o h1 _ h2 => absurd h2 (by simp; omega), fun r w a hw ha hR => ?_⟩
    simp only [List.length_nil, Nat.add_zero] at ha hR
    have e : F r = a := by
      have hF := hag r
      have h1 : (F r).tmps = a.tmps := by
        apply Array.ext_getElem?
        intro t
        by_cases hx : ∃ j, (ops[j]?).bind (·.dst) = some t ∧ j < k
        · obtain ⟨j, hj, hjk⟩ := hx
          by_cases hlt : t < a0.tmps.size
          · rw [hF.on j t hj hjk hlt, ha.on j t hj hjk hlt, hhat r j w hjk (hR j hjk)]
          · rw [Array.getElem?_eq_none (by rw [hF.size]; omega), Array.getElem?_eq_none (by rw [ha.size]; omega)]
        · rw [hF.off t fun j hj hl => hx ⟨j, hj, hl⟩, ha.off t fun j hj hl => hx ⟨j, hj, hl⟩]
      have h2 : (F r).defers = a.defers := by rw [hF.defers, ha.defers]
      cases hc : F r; cases a; rw [hc] at h1 h2; simp only at h1 h2; subst h1; subst h2; rfl
    rw [← e]
    exact h r w hw fun x hx => by
      obtain ⟨h1, h2⟩ := hFs x hx
      have := hR x.1 h1
      rw [List.getD_eq_getElem?_getD, h2] at this
      exact this
  | o :: l, k, F, Fs, Rs, hat, hl, hlen, hst, hag, hhat, hFs, h => by
    have h0 : ops[k]? = some o := by simpa using (hl 0 (by simp)).symm
    have hl' : ∀ j, j < l.length → l[j]? = ops[k + 1 + j]? := fun j hj => by have := hl (j + 1) (by simp; omega); simpa [Nat.add_assoc, Nat.add_comm 1 j] using this
    obtain ⟨R, F', Fs', hat', hR, hstep, hag', hhat', hFs', hrest⟩ : ∃ (R : Rel) (F' : (Nat → Value) → Act) (Fs' : Told) (hat' : (Nat → Value) → Nat → Value), StaysI S ia k R ∧ (∀ r w, Cl S ia W k w → given o Fs r w → relAtG (Gl S ia k) P ops o (F r) w R) ∧
        (∀ r, Agree ops a0 (F' r) (· < k + 1) (hat' r)) ∧ (∀ r j w, j < k + 1 → ((Rs ++ [R]).getD j fun _ _ => True) (r j) w → hat' r j = r j) ∧ (∀ x ∈ Fs', x.1 < k + 1 ∧ (Rs ++ [R])[x.1]? = some x.2) ∧ wpTurn P ops S ia W Q l (k + 1) F' Fs' := by
      have hkeep : ∀ (R : Rel) (x : Nat × Rel), x ∈ Fs → x.1 < k + 1 ∧ (Rs ++ [R])[x.1]? = some x.2 := fun R x hx => by
        obtain ⟨h1, h2⟩ := hFs x hx
        exact ⟨by omega, by rw [List.getElem?_append_left (by omega)]; exact h2⟩
      have hlt : ∀ (R : Rel) (r : Nat → Value) (j : Nat) (w : World), j < k → ((Rs ++ [R]).getD j fun _ _ => True) (r j) w → hat r j = r j := fun R r j w hj hr => by
        refine hhat r j w hj ?_
        rw [List.getD_eq_getElem?_getD, List.getElem?_append_left (by omega)] at hr
        rw [List.getD_eq_getElem?_getD]
        exact hr
      have hk : ∀ (R : Rel) (v : Value) (w : World), ((Rs ++ [R]).getD k fun _ _ => True) v w → R v w := fun R v w hr => by
        rw [List.getD_eq_getElem?_getD, List.getElem?_append_right (by omega), hlen] at hr
        simpa using hr
      have hput : ∀ (r : Nat → Value) (v : Value), Agree ops a0 ((F r).put o.dst v) (· < k + 1) (fun j => if j = k then v else hat r j) := fun r v => by
        have := (hag r).put hB h0 (Nat.lt_irrefl k) v
        have e : (fun j => j < k ∨ j = k) = (· < k + 1) := funext fun j => propext (by omega)
        rw [e] at this
        exact this
      unfold wpTurn at h
      rcases h with ⟨x, h1, h2⟩ | ⟨R, hR, h1, h2⟩
      · refine ⟨fun v _ => v = x, _, _, fun r j => if j = k then x else hat r j, StaysI.const _ _ _ _, h1, fun r => hput r x, fun r j w hj hr => ?_, fun y hy => hkeep _ y hy, h2⟩
        by_cases e : j = k
        · subst e; simp only [if_true]; exact (hk _ _ _ hr).symm
        · simp only [if_neg e]; exact hlt _ r j w (by omega) hr
      · refine ⟨R, _, _, fun r j => if j = k then r k else hat r j, hR, h1, fun r => hput r (r k), fun r j w hj hr => ?_, fun y hy => ?_, h2⟩
        · by_cases e : j = k
          · subst e; simp
          · simp only [if_neg e]; exact hlt _ r j w (by omega) hr
        · rcases List.mem_append.1 hy with hy | hy
          · exact hkeep _ y hy
          · simp only [List.mem_singleton] at hy
            subst hy
            exact ⟨Nat.lt_succ_self k, by rw [List.getElem?_append_right (by omega), hlen]; simp⟩
    obtain ⟨Rs', e1, e2, e3, e4, e5⟩ := tplan hB a0 Q l (k + 1) F' Fs' (Rs ++ [R]) hat' hl' (by simp [hlen]) (fun j R' hj => by
      by_cases e : j < k
      · rw [List.getElem?_append_left (by omega)] at hj
        exact hst j R' hj
      · rw [List.getElem?_append_right (by omega), hlen] at hj
        have h0 : j - k = 0 := by have := (List.getElem?_eq_some_iff.1 hj).1; simp at this; omega
        rw [h0] at hj
        obtain rfl : R = R' := by simpa using hj
        obtain rfl : j = k := by omega
        exact hR) hag' hhat' hFs' hrest
    have eL : k + (l.length + 1) = k + 1 + l.length := by omega
    refine ⟨Rs', by rw [e1, List.length_cons]; omega, e2, fun j hj => by rw [e3 j (by omega), List.getElem?_append_left (by omega)], fun i oi hi ho hlt => ?_, fun r w a hw ha hr => ?_⟩
    · rw [List.length_cons] at hlt
      by_cases e : i = k
      · subst e
        have : oi = o := Option.some.inj (ho.symm.trans h0)
        subst this
        intro a L r w hw ha hL hNL
        have eR : Rs'.getD i (fun _ _ => True) = R := by
          rw [List.getD_eq_getElem?_getD, e3 i (by omega), List.getElem?_append_right (by omega), hlen]; simp
        rw [eR]
        have hj : ∀ j, behind oi j = true → j < i := fun j hj => by
          obtain ⟨e, he, h1, h2⟩ := behind_iff.1 hj
          rw [← h1]
          exact ((relB_spec hB).2 i oi h0).1 e he h2
        have eRj : ∀ j, j < i → Rs'.getD j (fun _ _ => True) = Rs.getD j fun _ _ => True := fun j hj => by
          rw [List.getD_eq_getElem?_getD, e3 j (by omega), List.getElem?_append_left (by omega), List.getD_eq_getElem?_getD]
        refine relAtG_of_agree hB h0 (hag r) ha (fun j hb => ⟨hj j hb, (hL j hb).1, ?_⟩) (fun j oj hoj hb => ⟨fun hlt => ?_, hNL j oj hoj hb⟩) (hstep r w hw ?_)
        · refine hhat r j w (hj j hb) ?_
          rw [← eRj j (hj j hb)]
          exact (hL j hb).2
        · obtain ⟨e, he, h1, h2⟩ := behind_iff.1 hb
          have h3 := ((relB_spec hB).2 j oj hoj).1 e he h2
          have hlt' : j < i := hlt
          omega
        · intro x hx hb
          obtain ⟨h1, h2⟩ := hFs x hx
          have := (hL x.1 hb).2
          rw [eRj x.1 h1, List.getD_eq_getElem?_getD, h2] at this
          exact this
      · exact e4 i oi (by omega) ho (by omega)
    · rw [List.length_cons] at ha hr
      exact e5 r w a hw (by rw [← eL]; exact ha) (fun j hj => hr j (by omega))
theorem turn_step (hB : relB ops = true) {a0 : Act} {Q : Exit → Act → World → Prop} {Rs : List Rel} (hst : ∀ j R, Rs[j]? = some R → StaysI S ia j R) {i : Nat} (hop : ∀ o, ops[i]? = some o → opTurn P ops S ia W a0 Rs i o)
    {listed : Array Bool} {a : Act} {w : World} {r : Nat → Value} {K : Act → World → Prop} (hw : Only S W w) (hwb : listed.getD ia false = false → Below W.heap.size W w) (hsz : listed.size = ops.size) (ha : Agree ops a0 a (fun j => listed.getD j false = true) r)
    (hr : ∀ j, listed.getD j false = true → (Rs.getD j fun _ _ => True) (r j) w) (hi : i ∈ Region.ready .any ops listed) (hcl : ∀ j o, ops[j]? = some o → listed.getD j false = true → ∀ e ∈ o.after, Region.binds .any e = true → listed.getD e.on false = true)
    (hK : ∀ a' w' r', Only S W w' → ((listed.setIfInBounds i true).getD ia false = false → Below W.heap.size W w') → Agree ops a0 a' (fun j => (listed.setIfInBounds i true).getD j false = true) r' → (∀ j, (listed.setIfInBounds i true).getD j false = true → (Rs.getD j fun _ _ => True) (r' j) w') → K a' w') : wpOp P ops Q i K a w := by
  obtain ⟨hl, o, ho, hall⟩ := mem_ready.1 hi
  have hio : i < ops.size := (Array.getElem?_eq_some_iff.1 ho).1
  have hlf : ¬ listed.getD i false = true := by
    have hil : i < listed.size := by omega
    simp [hil] at hl ⊢
    exact hl
  have hcl' : Cl S ia W i w := by
    unfold Cl
    split
    · rename_i e
      subst e
      exact hwb (by simpa using hlf)
    · exact hw
  have hspec := hop o ho a _ r w hcl' ha (fun j hb => by
    obtain ⟨e, he, h1, h2⟩ := behind_iff.1 hb
    subst h1
    exact ⟨hall e he h2, hr _ (hall e he h2)⟩) (fun j oj hoj hb hlj => by
    obtain ⟨e, he, h1, h2⟩ := behind_iff.1 hb
    have := hcl j oj hoj hlj e he h2
    rw [h1] at this
    exact hlf this)
  have hnext : ∀ (v : Value) (w' : World), Gl S ia i w w' → (Rs.getD i fun _ _ => True) v w' → K (a.put o.dst v) w' := by
    intro v w' hb hR
    have hset : ∀ j, ((listed.setIfInBounds i true).getD j false = true) ↔ (listed.getD j false = true ∨ j = i) := fun j => by
      by_cases e : i = j
      · subst e
        have hil : i < listed.size := by omega
        simp [hil]
      · rw [getD_set_ne false e]
        exact ⟨.inl, fun h => h.resolve_right (Ne.symm e)⟩
    have hb2 : Only S w w' := by
      unfold Gl at hb
      split at hb
      · exact hb
      · exact Only.of_below hb
    refine hK _ w' (fun j => if j = i then v else r j) (hw.trans hb2) (fun hf => ?_) ?_ fun j hj => ?_
    · have hne : i ≠ ia := fun e => by
        subst e
        have := (hset i).2 (.inr rfl)
        rw [hf] at this
        cases this
      have hf' : listed.getD ia false = false := by
        rw [getD_set_ne false hne] at hf
        exact hf
      unfold Gl at hb
      rw [if_neg hne] at hb
      have h9 := hwb hf'
      exact h9.trans (hb.mono h9.size)
    · have := ha.put hB ho hlf v
      have e : (fun j => listed.getD j false = true ∨ j = i) = (fun j => (listed.setIfInBounds i true).getD j false = true) := funext fun j => propext (hset j).symm
      rw [e] at this
      exact this
    · by_cases e : j = i
      · subst e; simp only [if_true]; exact hR
      · simp only [if_neg e]
        have hjl := ((hset j).1 hj).resolve_right e
        have hrj := hr j hjl
        rw [List.getD_eq_getElem?_getD] at hrj ⊢
        cases hx : Rs[j]? with
        | none => trivial
        | some x =>
          rw [hx] at hrj
          have hs := hst j x hx
          unfold StaysI at hs
          split at hs
          · rename_i ej
            subst ej
            unfold Gl at hb
            rw [if_neg (fun e9 => e e9.symm)] at hb
            exact hs _ _ _ hb hrj
          · exact hs _ _ _ hb2 hrj
  unfold wpOp
  simp only [ho]
  unfold relAtG at hspec
  split
  · rename_i hw
    rw [if_pos hw] at hspec
    refine .inl ?_
    unfold Oper.wp
    generalize (execOp a.eval o).run P w = x at hspec ⊢
    cases x with
    | ok y w' =>
      cases y <;> simp only [relUponG] at hspec <;> simp only [Oper.upon]
      case value u => exact hnext u w' hspec.2 hspec.1
      case skip => exact hnext undef w' hspec.2 hspec.1
      case enter f args =>
        refine hspec.mono fun e w'' h => ?_
        obtain ⟨⟨v, rfl, hR⟩, hb⟩ := h
        exact hnext v w'' hb hR
    | halt x w' => simp only [relUponG] at hspec
  · rename_i hw
    rw [if_neg hw] at hspec
    exact hnext undef w (by unfold Gl; split; exact Only.refl _ _; exact Below.refl _ _) hspec
theorem anyTurnT (hB : relB ops = true) {m : Nat} (hmn : m ≤ ops.size) (hT : ∀ L : Nat → Prop, Closed ops L → ∀ i o, m ≤ i → ops[i]? = some o → (∀ e ∈ o.after, Region.binds .any e = true → L e.on) → ∀ j, j < i → L j)
    {a0 : Act} {Q : Exit → Act → World → Prop} {Rs : List Rel} (hst : ∀ j R, Rs[j]? = some R → StaysI S ia j R)
    (hop : ∀ i o, i < m → ops[i]? = some o → opTurn P ops S ia W a0 Rs i o)
    (hQ : ∀ r w a, Only S W w → Agree ops a0 a (· < m) r → (∀ j, j < m → (Rs.getD j fun _ _ => True) (r j) w) → wpOps P ops Q (List.range' m (ops.size - m)) a w) :
    ∀ (fuel : Nat) (listed : Array Bool) (a : Act) (w : World) (r : Nat → Value), Only S W w → (listed.getD ia false = false → Below W.heap.size W w) → listed.size = ops.size → fuel + (List.range ops.size).countP (fun i => listed.getD i false) = ops.size →
      (∀ j, m ≤ j → listed.getD j false = false) → Closed ops (fun j => listed.getD j false = true) →
      Agree ops a0 a (fun j => listed.getD j false = true) r → (∀ j, listed.getD j false = true → (Rs.getD j fun _ _ => True) (r j) w) → wpAny P .any ops Q fuel listed a w := by
  have hunl : ∀ (listed : Array Bool) (i : Nat), listed.size = ops.size → i < ops.size → listed.getD i true = false → listed.getD i false = false := fun listed i hsz hi h => by
    have hil : i < listed.size := by omega
    simp [hil] at h ⊢
    exact h
  have hone : ∀ k listed, (∀ j, listed.getD j false = decide (j < k)) → listed.size = ops.size → m ≤ k → ∀ i ∈ Region.ready .any ops listed, i = k := by
    intro k listed hl hsz hmk i hi
    obtain ⟨h0, o, ho, hall⟩ := mem_ready.1 hi
    have hio : i < ops.size := (Array.getElem?_eq_some_iff.1 ho).1
    have h1 := hunl listed i hsz hio h0
    rw [hl] at h1
    have hki : ¬ i < k := by simpa using h1
    by_cases e : i = k
    · exact e
    · have hcl : Closed ops (fun j => listed.getD j false = true) := fun j o ho hj e he hb => by
        show listed.getD e.on false = true
        have hj : listed.getD j false = true := hj
        rw [hl] at hj ⊢
        have := ((relB_spec hB).2 j o ho).1 e he hb
        simp at hj ⊢
        omega
      have := hT _ hcl i o (by omega) ho hall k (by omega)
      rw [hl] at this
      simp at this
  have hall' : ∀ k' (listed' : Array Bool), k' < ops.size → listed'.size = ops.size → (∀ j, listed'.getD j false = decide (j < k')) → k' ∈ Region.ready .any ops listed' := by
    intro k listed hk hsz hl
    have hkl : k < listed.size := by omega
    refine mem_ready.2 ⟨?_, ops[k], Array.getElem?_eq_getElem hk, fun e he hb => ?_⟩
    · have := hl k
      simp [hkl] at this ⊢
      exact this
    · have := ((relB_spec hB).2 k _ (Array.getElem?_eq_getElem hk)).1 e he hb
      rw [hl]
      exact decide_eq_true this
  have hfin : ∀ (fuel : Nat) (listed : Array Bool) (a : Act) (w : World) (r : Nat → Value), Only S W w → (listed.getD ia false = false → Below W.heap.size W w) → listed.size = ops.size → fuel + (List.range ops.size).countP (fun i => listed.getD i false) = ops.size →
      (∀ j, listed.getD j false = decide (j < m)) → Agree ops a0 a (fun j => listed.getD j false = true) r → (∀ j, listed.getD j false = true → (Rs.getD j fun _ _ => True) (r j) w) → wpAny P .any ops Q fuel listed a w := by
    intro fuel listed a w r hw hwb hsz hc hl ha hr
    have e1 : (fun i => listed.getD i false) = fun i => decide (i < m) := funext hl
    rw [e1, cnt_first m ops.size hmn] at hc
    have e2 : (fun j => listed.getD j false = true) = (· < m) := funext fun j => propext (by rw [hl]; simp)
    rw [e2] at ha
    have hq := hQ r w a hw ha fun j hj => hr j (by rw [hl]; exact decide_eq_true hj)
    obtain rfl : fuel = ops.size - m := by omega
    refine any_tail hone _ m listed a w (Nat.le_refl m) (by omega) hsz hl ?_ (fun k' l' _ h2 h3 h4 => hall' k' l' h2 h3 h4) hq
    by_cases e : ops.size - m = 0
    · exact .inl e
    · exact .inr (hall' m listed (by omega) hsz hl)
  intro fuel
  induction fuel with
  | zero =>
    intro listed a w r hw hwb hsz hc hno hcl ha hr
    have hfull : ∀ j, j < ops.size → listed.getD j false = true := fun j hj => by
      have : (List.range ops.size).countP (fun i => listed.getD i false) = (List.range ops.size).length := by simpa using hc
      exact List.countP_eq_length.1 this j (List.mem_range.2 hj)
    refine hfin 0 listed a w r hw hwb hsz hc (fun j => ?_) ha hr
    by_cases e : j < m
    · rw [hfull j (by omega)]; simp [e]
    · rw [hno j (by omega)]; simp [e]
  | succ fuel ih =>
    intro listed a w r hw hwb hsz hc hno hcl ha hr
    by_cases hpre : ∀ j, j < m → listed.getD j false = true
    · refine hfin (fuel + 1) listed a w r hw hwb hsz hc (fun j => ?_) ha hr
      by_cases e : j < m
      · rw [hpre j e]; simp [e]
      · rw [hno j (by omega)]; simp [e]
    · have hlow : ∀ i ∈ Region.ready .any ops listed, i < m := fun i hi => by
        obtain ⟨h0, o, ho, hall⟩ := mem_ready.1 hi
        rcases Nat.lt_or_ge i m with h | h
        · exact h
        · exact absurd (fun j hj => hT _ hcl i o h ho hall j (by omega)) hpre
      refine ⟨fun hnil => ?_, fun i hi => ?_⟩
      · exfalso
        refine hpre fun j hj => ?_
        have hall : ∀ q i, i < q → i < m → listed.getD i false = true := by
          intro q
          induction q with
          | zero => intro i h; omega
          | succ q ihq =>
            intro i hiq him
            by_cases hl : listed.getD i false = true
            · exact hl
            · exfalso
              have : i ∈ Region.ready .any ops listed := by
                refine mem_ready.2 ⟨?_, ops[i], Array.getElem?_eq_getElem (by omega), fun e he hb => ?_⟩
                · have hil : i < listed.size := by omega
                  simp [hil] at hl ⊢
                  exact hl
                · have h1 := ((relB_spec hB).2 i ops[i] (Array.getElem?_eq_getElem (by omega))).1 e he hb
                  exact ihq e.on (by omega) (by omega)
              rw [hnil] at this
              cases this
        exact hall (j + 1) j (by omega) hj
      · have him := hlow i hi
        refine turn_step hB hst (fun o ho => hop i o him ho) hw hwb hsz ha hr hi hcl fun a' w' r' hw' hwb' ha' hr' => ih _ a' w' r' hw' hwb' (by simpa using hsz) ?_ (fun j hj => ?_) ?_ ha' hr'
        · obtain ⟨h0, o, ho, _⟩ := mem_ready.1 hi
          have hio : i < ops.size := (Array.getElem?_eq_some_iff.1 ho).1
          have hil : i < listed.size := by omega
          have h1 := hunl listed i hsz hio h0
          have e : (fun j => (listed.setIfInBounds i true).getD j false) = fun j => decide (j = i) || listed.getD j false := funext fun j => by
            by_cases e : i = j
            · subst e; simp [hil]
            · rw [getD_set_ne false e]; simp [Ne.symm e]
          rw [e, cnt_set _ i h1, if_pos hio]
          omega
        · rw [getD_set_ne false (by omega)]
          exact hno j hj
        · intro j o ho hj e he hb
          by_cases e1 : i = j
          · subst e1
            obtain ⟨_, o', ho', hall⟩ := mem_ready.1 hi
            obtain rfl : o = o' := Option.some.inj (ho.symm.trans ho')
            exact getD_set_true (hall e he hb)
          · rw [getD_set_ne false e1] at hj
            exact getD_set_true (hcl j o ho hj e he hb)
theorem region_turn {id : Nat} {Q : Exit → Act → World → Prop} {a : Act} {w : World} {l : List Oper} {b : Bool} (S : List Nat) (ia m : Nat) (hm : P.follows .mixedOrders = true) (hB : relB l.toArray = true) (hT : tailB l m = true)
    (h : wpTurn P l.toArray S ia w (fun a' w' => wpList P l.toArray Q (l.drop m) a' w') (l.take m) 0 (fun _ => a) []) : (Code.region id l.toArray b).wp P Q a w := by
  unfold tailB at hT
  rw [Bool.and_eq_true, decide_eq_true_eq, List.all_eq_true] at hT
  obtain ⟨hml, hT⟩ := hT
  have hlen : (l.take m).length = m := by rw [List.length_take]; omega
  have hsub : ∀ j, j < m → (l.take m)[j]? = l[j]? := fun j hj => by rw [List.getElem?_take, if_pos hj]
  obtain ⟨Rs, e1, e2, _, e4, e5⟩ := tplan hB a _ (l.take m) 0 (fun _ => a) [] [] (fun r => r) (fun j hj => by rw [hsub j (by omega)]; simp) rfl (fun _ _ h => by simp at h) (fun r => ⟨rfl, rfl, fun _ _ _ h => absurd h (by omega), fun _ _ => rfl⟩) (fun _ _ _ h => absurd h (by omega)) (fun _ h => by cases h) h
  rw [hlen, Nat.zero_add] at e1 e4 e5
  have hcl : ∀ L : Nat → Prop, Closed l.toArray L → ∀ i o, m ≤ i → l.toArray[i]? = some o → (∀ e ∈ o.after, Region.binds .any e = true → L e.on) → ∀ j, j < i → L j := by
    intro L hc i o hmi ho hL j hj
    have hil : i < l.length := by simpa using (Array.getElem?_eq_some_iff.1 ho).1
    have h1 := hT i (List.mem_range.2 hil)
    rw [Bool.or_eq_true, decide_eq_true_eq, List.all_eq_true] at h1
    have h2 := (h1.resolve_left (by omega)) j (List.mem_range.2 hj)
    exact masks_ok hc l [] (fun j => by simp) (fun i o h => absurd h (by simp)) i o (by simpa using hil) ho hL j h2
  have hany : ∀ n : Held w, wpAny P .any l.toArray Q l.toArray.size (Array.replicate l.toArray.size false) a n.w := fun n => by
    have hrep : ∀ j, (Array.replicate l.toArray.size false).getD j false = false := fun j => by
      rcases Nat.lt_or_ge j l.length with h' | h'
      · simp [h']
      · simp [Array.getElem?_eq_none, h']
    refine anyTurnT (W := w) (a0 := a) (Rs := Rs) hB (by simpa using hml) hcl e2 (fun i o hi ho => e4 i o (Nat.zero_le _) ho hi) (fun r w a hw ha hr => ?_) _ _ _ n.w (fun _ => undef) (Only.of_below n.below) (fun _ => n.below) (by simp) ?_ (fun j _ => hrep j) (fun j o ho hj => ?_) ?_ ?_
    · have := e5 r w a hw ha hr
      have hx := wpOps_eq_wpList (P := P) (ops := l.toArray) (Q := Q) (l.drop m) m (fun j => by simp [List.getElem?_drop])
      have hz : l.toArray.size - m = (l.drop m).length := by simp
      rw [hz, hx]
      exact this
    · have : (List.range l.toArray.size).countP (fun i => (Array.replicate l.toArray.size false).getD i false) = 0 := by
        rw [List.countP_eq_zero]
        intro j _
        rw [hrep j]; simp
      rw [this, Nat.add_zero]
    · exact absurd (show (Array.replicate l.toArray.size false).getD j false = true from hj) (by rw [hrep j]; simp)
    · exact ⟨rfl, rfl, fun j d _ h => absurd (show (Array.replicate l.toArray.size false).getD j false = true from h) (by rw [hrep j]; simp), fun _ _ => rfl⟩
    · exact fun j h => absurd h (by rw [hrep j]; simp)
  cases b
  · refine wp_region ?_
    rw [List.range_eq_range']
    exact any_lex hB _ 0 _ a w (by simp) (by simp) (fun j => by
      rcases Nat.lt_or_ge j l.length with h' | h'
      · simp [h']
      · simp [Array.getElem?_eq_none, h']) (hany ⟨w, Below.refl _ _⟩)
  · exact wp_region_any hm (hany ⟨w.drew, (Below.refl _ _).drew⟩)
end
structure HeldS (S : List Nat) (W : World) where
  w : World
  only : Only S W w
theorem heldS_cell {S : List Nat} (W : World) (n : HeldS S W) (b o : Nat) (h : b < W.heap.size) (hs : b ∉ S) : n.w.cell? ⟨b, o, none⟩ = W.cell? ⟨b, o, none⟩ := World.cell?_of_block (n.only.block b h hs)
theorem upon_gl {S : List Nat} {ia i : Nat} (hi : i ≠ ia) {P : Program} {R : Value → World → Prop} {w : World} {x : Result Next} (h : relUpon P R w x) : relUponG (Gl S ia i) P R w x := by
  have e : Gl S ia i = fun w w' => Below w.heap.size w w' := by
    funext w w'
    unfold Gl
    rw [if_neg hi]
  rw [e]
  cases x with
  | ok y w' => cases y <;> exact h
  | halt => exact h
section
variable {P : Program} {ops : Array Oper} {S : List Nat} {ia : Nat} {W : World} {Q : Act → World → Prop}
theorem at_gl {i : Nat} (hi : i ≠ ia) {o : Oper} {a : Act} {w : World} {R : Value → World → Prop} (h : relAt P ops o a w R) : relAtG (Gl S ia i) P ops o a w R := by
  unfold relAt at h
  unfold relAtG
  split
  · rename_i hw
    rw [if_pos hw] at h
    exact upon_gl hi h
  · rename_i hw
    rw [if_neg hw] at h
    exact h
theorem cl_only {i : Nat} (hi : i ≠ ia) {w : World} (h : Cl S ia W i w) : Only S W w := by
  unfold Cl at h
  rwa [if_neg hi] at h
theorem turnStep {o : Oper} {rest : List Oper} {i : Nat} {F : (Nat → Value) → Act} {Fs : Told}
    (h : ∀ K : ((Nat → Value) → Act) → Told → Prop, (∀ F Fs, wpTurn P ops S ia W Q rest (i + 1) F Fs → K F Fs) →
      (∃ x, (∀ r w, Cl S ia W i w → given o Fs r w → relAtG (Gl S ia i) P ops o (F r) w fun v _ => v = x) ∧ K (fun r => (F r).put o.dst x) Fs) ∨
      (∃ R, StaysI S ia i R ∧ (∀ r w, Cl S ia W i w → given o Fs r w → relAtG (Gl S ia i) P ops o (F r) w R) ∧ K (fun r => (F r).put o.dst (r i)) (Fs ++ [(i, R)]))) : wpTurn P ops S ia W Q (o :: rest) i F Fs :=
  h _ fun _ _ h => h
theorem turnNil {i : Nat} {F : (Nat → Value) → Act} {Fs : Told} (h : ∀ r (n : HeldS S W), (∀ x ∈ Fs, x.2 (r x.1) n.w) → Q (F r) n.w) : wpTurn P ops S ia W Q [] i F Fs := fun r w hw hx => h r ⟨w, hw⟩ hx
theorem turnInl {o : Oper} {i : Nat} (hi : i ≠ ia) {F : (Nat → Value) → Act} {Fs : Told} {K : ((Nat → Value) → Act) → Told → Prop} {x : Value} (h1 : ∀ r (n : HeldS S W), given o Fs r n.w → relAt P ops o (F r) n.w fun v _ => v = x) (h2 : K (fun r => (F r).put o.dst x) Fs) :
    (∃ x, (∀ r w, Cl S ia W i w → given o Fs r w → relAtG (Gl S ia i) P ops o (F r) w fun v _ => v = x) ∧ K (fun r => (F r).put o.dst x) Fs) ∨
      (∃ R, StaysI S ia i R ∧ (∀ r w, Cl S ia W i w → given o Fs r w → relAtG (Gl S ia i) P ops o (F r) w R) ∧ K (fun r => (F r).put o.dst (r i)) (Fs ++ [(i, R)])) :=
  .inl ⟨x, fun r w hw hg => at_gl hi (h1 r ⟨w, cl_only hi hw⟩ hg), h2⟩
theorem turnInr {o : Oper} {i : Nat} (hi : i ≠ ia) {F : (Nat → Value) → Act} {Fs : Told} {K : ((Nat → Value) → Act) → Told → Prop} (R : Value → World → Prop) (hR : StaysS S R) (h1 : ∀ r (n : HeldS S W), given o Fs r n.w → relAt P ops o (F r) n.w R) (h2 : K (fun r => (F r).put o.dst (r i)) (Fs ++ [(i, R)])) :
    (∃ x, (∀ r w, Cl S ia W i w → given o Fs r w → relAtG (Gl S ia i) P ops o (F r) w fun v _ => v = x) ∧ K (fun r => (F r).put o.dst x) Fs) ∨
      (∃ R, StaysI S ia i R ∧ (∀ r w, Cl S ia W i w → given o Fs r w → relAtG (Gl S ia i) P ops o (F r) w R) ∧ K (fun r => (F r).put o.dst (r i)) (Fs ++ [(i, R)])) :=
  .inr ⟨R, by unfold StaysI; rw [if_neg hi]; exact hR, fun r w hw hg => at_gl hi (h1 r ⟨w, cl_only hi hw⟩ hg), h2⟩
theorem turnApp {o : Oper} {i : Nat} (hi : i = ia) {F : (Nat → Value) → Act} {Fs : Told} {K : ((Nat → Value) → Act) → Told → Prop} (R : Value → World → Prop) (hR : Stays R) (h1 : ∀ r (n : Held W), given o Fs r n.w → relAtG (fun w w' => Only S w w') P ops o (F r) n.w R) (h2 : K (fun r => (F r).put o.dst (r i)) (Fs ++ [(i, R)])) :
    (∃ x, (∀ r w, Cl S ia W i w → given o Fs r w → relAtG (Gl S ia i) P ops o (F r) w fun v _ => v = x) ∧ K (fun r => (F r).put o.dst x) Fs) ∨
      (∃ R, StaysI S ia i R ∧ (∀ r w, Cl S ia W i w → given o Fs r w → relAtG (Gl S ia i) P ops o (F r) w R) ∧ K (fun r => (F r).put o.dst (r i)) (Fs ++ [(i, R)])) := by
  refine .inr ⟨R, by unfold StaysI; rw [if_pos hi]; exact hR, fun r w hw hg => ?_, h2⟩
  unfold Cl at hw
  rw [if_pos hi] at hw
  have h := h1 r ⟨w, hw⟩ hg
  have e : Gl S ia i = fun w w' => Only S w w' := by
    funext w w'
    unfold Gl
    rw [if_pos hi]
  rw [e]
  exact h
theorem turn_append {o : Oper} {a : Act} {w : World} {R : Value → World → Prop} (hgd : o.guard = none) (s x : Operand) (t : TypeId)
    (ho : o.op = .call { callee := .builtin .append, args := #[s, x], argTypes := #[t, t] })
    (base : Nat) (e : TypeId) (i : TypeInfo) (z : Value) (size bytes : Nat) (ht : P.underlying t = some (.slice e)) (hi : P.info? e = some i) (hz : i.zero = some z)
    (hsize : i.size = size) (hby : i.bytes = bytes) (hzs : z.cells.size = size) (hsz : 0 < size)
    (v : Value) (n : Nat) (xs : List Value) (hs : a.eval s = v) (hown : w.ownsRow base e size v n xs)
    (ad : Addr) (m c : Nat) (news : List Value) (hx : a.eval x = .slice (some ad) m c) (hl : news.length = m * size) (hnews : ∀ j u, news[j]? = some u → w.cell? (ad.add j) = some u) (h1 : ∀ u ∈ news, u.oneCell' = true)
    (hm : 0 < m) (h63 : n + m ≤ maxLen) (hbytes : (n + m) * bytes ≤ 140737488355328) (hbase : base ≤ w.heap.size) (hS : ∀ g, v.ownBlock = some g → g ∈ S)
    (h : ∀ g cap w', w'.ownsRow base e size (.slice (some ⟨g, 0, none⟩) (n + m) cap) (n + m) (xs ++ news) → w.grownBy w' v.ownBlock → (v.ownBlock = some g ∨ g = w.heap.size) → R (.slice (some ⟨g, 0, none⟩) (n + m) cap) w') :
    relAtG (fun w w' => Only S w w') P ops o a w R := by
  obtain ⟨g, cap, w', hr, h2, h3, h4, h5⟩ := run_append_lies (P := P) w t o.type base e i z size bytes ht hi hz hsize hby hzs hsz v n xs hown ad m c news hl hnews h1 hm h63 hbytes hbase w.heap.size rfl
  have hw : Region.wanted o (yielded ops a.tmps) = true := by simp [Region.wanted, hgd]
  unfold relAtG
  rw [if_pos hw]
  unfold execOp
  simp only [ho, resolve, invoke, builtin, Sem.run_bind, Sem.run_pure, Result.andThen_ok, List.map_toArray, List.map_cons, List.map_nil, hs, hx, hr]
  exact ⟨h g cap w' h2 h3 h4, (Only.refl S w).grown h3 fun k hk => .inl (hS k hk)⟩
end
def NewRow (W : World) (t : TypeId) (cs : List Value) (m : Nat) (u : Value) (w : World) : Prop := ∃ B, u = .slice (some ⟨B, 0, none⟩) m m ∧ W.heap.size ≤ B ∧ Blk w B t cs
theorem NewRow.stays {S : List Nat} {W : World} (hS : ∀ k ∈ S, k < W.heap.size) (t : TypeId) (cs : List Value) (m : Nat) : StaysS S (NewRow W t cs m) := fun v w w' ho ⟨B, e, hB, hb⟩ =>
  ⟨B, e, hB, hb.only ho fun hk => by have := hS B hk; omega⟩
theorem NewRow.mk {S : List Nat} {W : World} (n : HeldS S W) (t : TypeId) (cs : List Value) (m : Nat) : NewRow W t cs m (.slice (some ⟨n.w.heap.size, 0, none⟩) m m) (n.w.alloc (.cells cs.toArray t)) := ⟨_, rfl, n.only.size, Blk.new _ _ _⟩
theorem NewRow.news {w : World} {B : Nat} {t : TypeId} {cs : List Value} (h : Blk w B t cs) : ∀ j u, cs[j]? = some u → w.cell? ((⟨B, 0, none⟩ : Addr).add j) = some u := fun j u hu => by
  rw [Go.WideShapes.add_plain, Nat.zero_add, h.cell]
  exact hu
theorem OwnL.eq {α : Type} {enc : α → List Value} {K base : Nat} {t : TypeId} {l m : List α} {v : Value} {w : World} (hl : l = m) (h : w.ownsRow base t K v m.length (m.flatMap enc)) : OwnL enc K base t l v w := hl ▸ h
theorem filt_yes {α : Type} {P : α → Bool} {xs : List α} {k : Nat} {x : α} (h : xs[k]? = some x) (hp : P x = true) : (xs.take (k + 1)).filter P = (xs.take k).filter P ++ [x] := by
  rw [take_at h, List.filter_append, List.filter_cons_of_pos hp, List.filter_nil]
theorem filt_len {α : Type} (P : α → Bool) (xs : List α) (k : Nat) : ((xs.take k).filter P).length ≤ k := Nat.le_trans (List.length_filter_le _ _) (List.length_take_le _ _)
theorem filt_all {α : Type} (P : α → Bool) {xs : List α} {n : Nat} (h : xs.length = n) : (xs.take n).filter P = xs.filter P := by rw [← h, List.take_length]
def Keep (B C : Nat) (w w' : World) : Prop := ∀ j, B ≤ j → j < C → w'.heap[j]? = w.heap[j]?
theorem Keep.refl (B C : Nat) (w : World) : Keep B C w w := fun _ _ _ => rfl
theorem Keep.setCell {B C : Nat} {a w : World} (h : Keep B C a w) {p : Addr} (hp : p.block < B ∨ C ≤ p.block) (u : Value) : Keep B C a (w.setCell p u) := fun j h1 h2 => by
  rw [← h j h1 h2]
  exact Below.heap_setCell _ _ _ _ (by rcases hp with hp | hp <;> omega)
theorem Keep.alloc {B C : Nat} {a w : World} (h : Keep B C a w) (hs : C ≤ w.heap.size) (o : Obj) : Keep B C a (w.alloc o) := fun j h1 h2 => by
  rw [← h j h1 h2]
  exact ((Below.refl w.heap.size w).alloc (Nat.le_refl _) o).block j (by omega)
theorem Keep.step {B C : Nat} {a W w : World} (hb : Below W.heap.size W w) (h : Keep B C a W) (hs : C ≤ W.heap.size) : Keep B C a w := fun j h1 h2 => by
  rw [← h j h1 h2]
  exact hb.block j (by omega)
theorem Keep.drew {B C : Nat} {a w : World} (h : Keep B C a w) : Keep B C a w.drew := h
theorem Keep.drewN {B C : Nat} {a w : World} (h : Keep B C a w) (n : Nat) : Keep B C a (w.drewN n) := h
theorem own_keep {w w1 : World} {B base : Nat} {v : Value} {n k : Nat} {e : TypeId} {xs : List Value} (h : w.ownsRow base e k v n xs) (hb : Keep B w.heap.size w w1) (hB : B ≤ base) : w1.ownsRow base e k v n xs := by
  obtain ⟨hl, hv | ⟨g, cap, cur, rfl, hg, hh, r⟩⟩ := h
  · exact ⟨hl, .inl hv⟩
  · refine ⟨hl, .inr ⟨g, cap, cur, rfl, hg, ?_, r⟩⟩
    rw [hb g (by omega) (Array.getElem?_eq_some_iff.1 hh).1]
    exact hh
theorem load_cells {P : Program} {ops : Array Oper} {Q : Exit → Act → World → Prop} {a : Act} {w : World} {rest : List Oper} {o : Oper} (hw : Region.wanted o (yielded ops a.tmps) = true) (ty : TypeId) (x : Operand) (ho : o.op = .load ty x)
    (b off : Nat) (hx : a.eval x = .pointer (some ⟨b, off, none⟩)) (cs : List Value) (d : TypeDesc) (hu : P.underlying ty = some d) (hd : d.isRow = true) (hi : (P.info? ty).map (·.size) = some cs.length) (hc : w.rangeAt b off cs)
    (h : wpList P ops Q rest (a.put o.dst (.agg cs.toArray)) w) : wpList P ops Q (o :: rest) a w :=
  BigFrame.wpList_want hw fun K hK => wp_load_mid ty x ho b off hx cs d hc hu hd hi (hK _ _ h)
theorem store_new {P : Program} {ops : Array Oper} {Q : Exit → Act → World → Prop} {a : Act} {w : World} {rest : List Oper} {o : Oper} (hw : Region.wanted o (yielded ops a.tmps) = true) (ty : TypeId) (x y : Operand) (ho : o.op = .store ty x y)
    (c c' : Array Value) (hx : a.eval x = .pointer (some ⟨w.heap.size, 0, none⟩)) (hy : a.eval y = .agg c') (hi : (P.info? ty).map (·.size) = some c'.size) (hs : c.size = c'.size) (h1 : c'.toList.all (·.oneCell') = true) (hd : o.dst = none)
    (h : wpList P ops Q rest a (w.alloc (.cells c' ty))) : wpList P ops Q (o :: rest) a (w.alloc (.cells c ty)) :=
  BigFrame.wpList_want hw fun K hK => by
    unfold Oper.wp execOp
    simp only [ho, hx, hy, Instr.storeAt, Instr.sureAddr, Sem.run_bind, Sem.run_pure, Result.andThen_ok, run_storeVar_new w ty c c' hi hs (by rw [← Array.all_toList]; exact h1)]
    have e : a.put o.dst undef = a := by rw [hd]; rfl
    exact hK _ _ (by rw [e]; exact h)
theorem rangeAt_mono {w w' : World} {b off : Nat} {cs : List Value} (h : w.rangeAt b off cs) (hlt : b < w.heap.size) (hb : Below w.heap.size w w') : w'.rangeAt b off cs := fun j v hv => by
  rw [hb.cell (p := ⟨b, off + j, none⟩) hlt]
  exact h j v hv
theorem at_load {P : Program} {ops : Array Oper} {Q : Exit → Act → World → Prop} {a : Act} {w : World} {rest : List Oper} {d : Option Tmp} {ty : TypeId} {x : Operand} {t : TypeId} {p : String} {af : Array Edge} {g : Option (Nat × Bool)}
    (h : wpList P ops Q ({ dst := d, op := .load ty x, type := t, pos := p, after := af, guard := g } :: rest) a w) : wpList P ops Q ({ dst := d, op := .load ty x, type := t, pos := p, after := af, guard := g } :: rest) a w := h
theorem at_store {P : Program} {ops : Array Oper} {Q : Exit → Act → World → Prop} {a : Act} {w : World} {rest : List Oper} {d : Option Tmp} {ty : TypeId} {x y : Operand} {t : TypeId} {p : String} {af : Array Edge} {g : Option (Nat × Bool)}
    (h : wpList P ops Q ({ dst := d, op := .store ty x y, type := t, pos := p, after := af, guard := g } :: rest) a w) : wpList P ops Q ({ dst := d, op := .store ty x y, type := t, pos := p, after := af, guard := g } :: rest) a w := h
theorem rel_load {P : Program} {ops : Array Oper} {a : Act} {w : World} {R : Value → World → Prop} {d0 : Option Tmp} {ty : TypeId} {x : Operand} {t : TypeId} {p : String} {af : Array Edge} {g : Option (Nat × Bool)}
    (hw : Region.wanted { dst := d0, op := .load ty x, type := t, pos := p, after := af, guard := g } (yielded ops a.tmps) = true)
    (b off : Nat) (hx : a.eval x = .pointer (some ⟨b, off, none⟩)) (cs : List Value) (d : TypeDesc) (hu : P.underlying ty = some d) (hd : d.isRow = true) (hi : (P.info? ty).map (·.size) = some cs.length) (hc : w.rangeAt b off cs)
    (hR : R (.agg cs.toArray) w) : relAt P ops { dst := d0, op := .load ty x, type := t, pos := p, after := af, guard := g } a w R := by
  unfold relAt
  rw [if_pos hw]
  unfold execOp
  simp only [hx, Instr.loadAt, Instr.sureAddr, Sem.run_bind, Sem.run_pure, Result.andThen_ok, run_loadVar_mid w b off ty cs d hc hu hd hi]
  exact ⟨hR, Below.refl _ _⟩
end Go.Proofs.YtmkdfcggjlhcpaaGreatDoor
