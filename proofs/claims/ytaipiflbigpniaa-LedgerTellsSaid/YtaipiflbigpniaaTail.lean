/-
  Regions whose last operations stand behind all others: the first ones as in XRel, then the last ones in the order of the text.
-/
import Derived.Test.YtaipiflbigpniaaRel
namespace Go.Proofs.Ytaipiflbigpniaa
open Go.RowKit
set_option linter.unusedVariables false
set_option linter.unusedSimpArgs false

/-- What stands ahead of each operation, as bits. -/
def aheadOf (acc : List Nat) (o : Oper) : Nat := o.after.toList.foldl (fun m e => if Region.binds .any e then m ||| (1 <<< e.on ||| acc.getD e.on 0) else m) 0
def masks : List Oper → List Nat → List Nat
  | [], acc => acc
  | o :: l, acc => masks l (acc ++ [aheadOf acc o])
def tailB (l : List Oper) (m : Nat) : Bool := decide (m ≤ l.length) && (List.range l.length).all fun i => decide (i < m) || (List.range i).all fun j => ((masks l []).getD i 0).testBit j

def Closed (ops : Array Oper) (L : Nat → Prop) : Prop := ∀ j o, ops[j]? = some o → L j → ∀ e ∈ o.after, Region.binds .any e = true → L e.on

theorem ahead_fold (acc : List Nat) (j : Nat) : ∀ (es : List Edge) (m : Nat), (es.foldl (fun m e => if Region.binds .any e then m ||| (1 <<< e.on ||| acc.getD e.on 0) else m) m).testBit j = true →
    m.testBit j = true ∨ ∃ e ∈ es, Region.binds .any e = true ∧ (e.on = j ∨ (acc.getD e.on 0).testBit j = true)
  | [], m, h => .inl h
  | e :: es, m, h => by
    rw [List.foldl_cons] at h
    rcases ahead_fold acc j es _ h with h | ⟨x, hx, hb, hj⟩
    · by_cases hb : Region.binds .any e = true
      · rw [if_pos hb, Nat.testBit_or, Nat.testBit_or, Bool.or_eq_true, Bool.or_eq_true] at h
        rcases h with h | h | h
        · exact .inl h
        · refine .inr ⟨e, List.mem_cons_self, hb, .inl ?_⟩
          rw [Nat.shiftLeft_eq, Nat.one_mul, Nat.testBit_two_pow] at h
          simpa using h
        · exact .inr ⟨e, List.mem_cons_self, hb, .inr h⟩
      · rw [if_neg hb] at h
        exact .inl h
    · exact .inr ⟨x, List.mem_cons_of_mem _ hx, hb, hj⟩

/-- The bits are right: what stands in an operation's mask is listed when what stands right ahead of it is. -/
theorem masks_ok {ops : Array Oper} {L : Nat → Prop} (hc : Closed ops L) : ∀ (l : List Oper) (acc : List Nat), (∀ j, l[j]? = ops[acc.length + j]?) →
    (∀ i o, i < acc.length → ops[i]? = some o → (∀ e ∈ o.after, Region.binds .any e = true → L e.on) → ∀ j, (acc.getD i 0).testBit j = true → L j) →
    ∀ i o, i < acc.length + l.length → ops[i]? = some o → (∀ e ∈ o.after, Region.binds .any e = true → L e.on) → ∀ j, ((masks l acc).getD i 0).testBit j = true → L j
  | [], acc, _, h, i, o, hi, ho, hL, j, hj => h i o (by simpa using hi) ho hL j hj
  | x :: l, acc, hl, h, i, o, hi, ho, hL, j, hj => by
    have h0 : ops[acc.length]? = some x := by simpa using (hl 0).symm
    refine masks_ok hc l (acc ++ [aheadOf acc x]) (fun j => ?_) (fun i o hi ho hL j hj => ?_) i o (by simp at hi ⊢; omega) ho hL j hj
    · have := hl (j + 1)
      simpa [Nat.add_assoc, Nat.add_comm 1 j] using this
    · by_cases e : i < acc.length
      · rw [List.getD_eq_getElem?_getD, List.getElem?_append_left e, ← List.getD_eq_getElem?_getD] at hj
        exact h i o e ho hL j hj
      · obtain rfl : i = acc.length := by simp at hi; omega
        obtain rfl : o = x := Option.some.inj (ho.symm.trans h0)
        rw [List.getD_eq_getElem?_getD, List.getElem?_append_right (Nat.le_refl _)] at hj
        simp only [Nat.sub_self, List.getElem?_cons_zero, Option.getD_some] at hj
        rcases ahead_fold acc j _ _ hj with hz | ⟨e, he, hb, hj⟩
        · simp at hz
        · have hLe := hL e (by simpa using he) hb
          rcases hj with rfl | hj
          · exact hLe
          · by_cases hea : e.on < acc.length
            · have hoe : ∃ oe, ops[e.on]? = some oe := by
                rcases Nat.lt_or_ge e.on ops.size with h1 | h1
                · exact ⟨_, Array.getElem?_eq_getElem h1⟩
                · have := (Array.getElem?_eq_some_iff.1 h0).1
                  omega
              obtain ⟨oe, hoe⟩ := hoe
              exact h e.on oe hea hoe (hc e.on oe hoe hLe) j hj
            · rw [List.getD_eq_getElem?_getD, List.getElem?_eq_none (by omega)] at hj
              simp at hj

section
variable {P : Program} {ops : Array Oper} {W : World}

/-- Once all but the last ones are listed, the order of the text is the one order. -/
theorem any_tail {Q : Exit → Act → World → Prop} {m : Nat} (hone : ∀ k listed, (∀ j, listed.getD j false = decide (j < k)) → listed.size = ops.size → m ≤ k → ∀ i ∈ Region.ready .any ops listed, i = k) :
    ∀ (fuel k : Nat) (listed : Array Bool) (a : Act) (w : World), m ≤ k → k + fuel = ops.size → listed.size = ops.size → (∀ j, listed.getD j false = decide (j < k)) → (fuel = 0 ∨ k ∈ Region.ready .any ops listed) →
      (∀ k' listed', k ≤ k' → k' < ops.size → listed'.size = ops.size → (∀ j, listed'.getD j false = decide (j < k')) → k' ∈ Region.ready .any ops listed') →
      wpOps P ops Q (List.range' k fuel) a w → wpAny P .any ops Q fuel listed a w
  | 0, k, listed, a, w, hm, hk, hsz, hl, _, _, h => by
    refine ⟨?_, h⟩
    cases hx : Region.ready .any ops listed with
    | nil => rfl
    | cons i xs =>
      exfalso
      have hi : i ∈ Region.ready .any ops listed := by rw [hx]; exact List.mem_cons_self
      have := hone k listed hl hsz hm i hi
      obtain ⟨_, o, ho, _⟩ := mem_ready.1 hi
      have := (Array.getElem?_eq_some_iff.1 ho).1
      omega
  | fuel + 1, k, listed, a, w, hm, hk, hsz, hl, hr, hall, h => by
    have hkr := hr.resolve_left (by omega)
    refine ⟨(fun hnil => by rw [hnil] at hkr; cases hkr), fun i hi => ?_⟩
    obtain rfl : i = k := hone k listed hl hsz hm i hi
    rw [List.range'_succ, wpOps_cons] at h
    have hset : ∀ j, (listed.setIfInBounds i true).getD j false = decide (j < i + 1) := fun j => by
      have hil : i < listed.size := by omega
      by_cases e : i = j
      · subst e; simp [hil]
      · rw [getD_set_ne false e, hl]
        exact decide_eq_decide.2 (by omega)
    refine wpOp_mono (fun a w h => any_tail hone fuel (i + 1) _ a w (by omega) (by omega) (by simpa using hsz) hset ?_ (fun k' l' h1 => hall k' l' (by omega)) h) h
    by_cases e : fuel = 0
    · exact .inl e
    · exact .inr (hall (i + 1) _ (by omega) (by omega) (by simpa using hsz) hset)

theorem cnt_set (f : Nat → Bool) (i : Nat) (hf : f i = false) : ∀ n, (List.range n).countP (fun j => decide (j = i) || f j) = (List.range n).countP f + if i < n then 1 else 0
  | 0 => by simp
  | n + 1 => by
    rw [List.range_succ, List.countP_append, List.countP_append, cnt_set f i hf n]
    by_cases e : n = i
    · subst e; simp [hf]
    · by_cases h : i < n
      · simp [e, h, show i < n + 1 by omega]; omega
      · simp [e, h, show ¬ i < n + 1 by omega]
theorem cnt_first (m : Nat) : ∀ n, m ≤ n → (List.range n).countP (fun j => decide (j < m)) = m
  | 0, h => by obtain rfl : m = 0 := by omega
               rfl
  | n + 1, h => by
    rw [List.range_succ, List.countP_append]
    by_cases e : m ≤ n
    · rw [cnt_first m n e]; simp; omega
    · obtain rfl : m = n + 1 := by omega
      have : (List.range n).countP (fun j => decide (j < n + 1)) = (List.range n).length := List.countP_eq_length.2 fun j hj => by
        have := List.mem_range.1 hj
        simp; omega
      rw [this]; simp

theorem anyRelT (hB : relB ops = true) {m : Nat} (hmn : m ≤ ops.size) (hT : ∀ L : Nat → Prop, Closed ops L → ∀ i o, m ≤ i → ops[i]? = some o → (∀ e ∈ o.after, Region.binds .any e = true → L e.on) → ∀ j, j < i → L j)
    {a0 : Act} {Q : Exit → Act → World → Prop} {Rs : List Rel} (hst : ∀ R ∈ Rs, Stays R)
    (hop : ∀ i o, i < m → ops[i]? = some o → opSpec P ops W a0 Rs i o)
    (hQ : ∀ r (n : Held W) a, Agree ops a0 a (· < m) r → (∀ j, j < m → (Rs.getD j fun _ _ => True) (r j) n.w) → wpOps P ops Q (List.range' m (ops.size - m)) a n.w) :
    ∀ (fuel : Nat) (listed : Array Bool) (a : Act) (n : Held W) (r : Nat → Value), listed.size = ops.size → fuel + (List.range ops.size).countP (fun i => listed.getD i false) = ops.size →
      (∀ j, m ≤ j → listed.getD j false = false) → Closed ops (fun j => listed.getD j false = true) →
      Agree ops a0 a (fun j => listed.getD j false = true) r → (∀ j, listed.getD j false = true → (Rs.getD j fun _ _ => True) (r j) n.w) → wpAny P .any ops Q fuel listed a n.w := by
  have hunl : ∀ (listed : Array Bool) (i : Nat), listed.size = ops.size → i < ops.size → listed.getD i true = false → listed.getD i false = false := fun listed i hsz hi h => by
    have hil : i < listed.size := by omega
    simp [hil] at h ⊢
    exact h
  have hone : ∀ k listed, (∀ j, listed.getD j false = decide (j < k)) → listed.size = ops.size → m ≤ k → ∀ i ∈ Region.ready .any ops listed, i = k := by
    intro k listed hl hsz hmk i hi
    obtain ⟨h0, o, ho, hall⟩ := mem_ready.1 hi
    have hio : i < ops.size := (Array.getElem?_eq_some_iff.1 ho).1
    have h1 := hunl listed i hsz hio h0
    rw [hl] at h1
    have hki : ¬ i < k := by simpa using h1
    by_cases e : i = k
    · exact e
    · have hcl : Closed ops (fun j => listed.getD j false = true) := fun j o ho hj e he hb => by
        show listed.getD e.on false = true
        have hj : listed.getD j false = true := hj
        rw [hl] at hj ⊢
        have := ((relB_spec hB).2 j o ho).1 e he hb
        simp at hj ⊢
        omega
      have := hT _ hcl i o (by omega) ho hall k (by omega)
      rw [hl] at this
      simp at this
  have hall' : ∀ k' (listed' : Array Bool), k' < ops.size → listed'.size = ops.size → (∀ j, listed'.getD j false = decide (j < k')) → k' ∈ Region.ready .any ops listed' := by
    intro k listed hk hsz hl
    have hkl : k < listed.size := by omega
    refine mem_ready.2 ⟨?_, ops[k], Array.getElem?_eq_getElem hk, fun e he hb => ?_⟩
    · have := hl k
      simp [hkl] at this ⊢
      exact this
    · have := ((relB_spec hB).2 k _ (Array.getElem?_eq_getElem hk)).1 e he hb
      rw [hl]
      exact decide_eq_true this
  have hfin : ∀ (fuel : Nat) (listed : Array Bool) (a : Act) (n : Held W) (r : Nat → Value), listed.size = ops.size → fuel + (List.range ops.size).countP (fun i => listed.getD i false) = ops.size →
      (∀ j, listed.getD j false = decide (j < m)) → Agree ops a0 a (fun j => listed.getD j false = true) r → (∀ j, listed.getD j false = true → (Rs.getD j fun _ _ => True) (r j) n.w) → wpAny P .any ops Q fuel listed a n.w := by
    intro fuel listed a n r hsz hc hl ha hr
    have e1 : (fun i => listed.getD i false) = fun i => decide (i < m) := funext hl
    rw [e1, cnt_first m ops.size hmn] at hc
    have e2 : (fun j => listed.getD j false = true) = (· < m) := funext fun j => propext (by rw [hl]; simp)
    rw [e2] at ha
    have hq := hQ r n a ha fun j hj => hr j (by rw [hl]; exact decide_eq_true hj)
    obtain rfl : fuel = ops.size - m := by omega
    refine any_tail hone _ m listed a n.w (Nat.le_refl m) (by omega) hsz hl ?_ (fun k' l' _ h2 h3 h4 => hall' k' l' h2 h3 h4) hq
    by_cases e : ops.size - m = 0
    · exact .inl e
    · exact .inr (hall' m listed (by omega) hsz hl)
  intro fuel
  induction fuel with
  | zero =>
    intro listed a n r hsz hc hno hcl ha hr
    have hfull : ∀ j, j < ops.size → listed.getD j false = true := fun j hj => by
      have : (List.range ops.size).countP (fun i => listed.getD i false) = (List.range ops.size).length := by simpa using hc
      exact List.countP_eq_length.1 this j (List.mem_range.2 hj)
    refine hfin 0 listed a n r hsz hc (fun j => ?_) ha hr
    by_cases e : j < m
    · rw [hfull j (by omega)]; simp [e]
    · rw [hno j (by omega)]; simp [e]
  | succ fuel ih =>
    intro listed a n r hsz hc hno hcl ha hr
    by_cases hpre : ∀ j, j < m → listed.getD j false = true
    · refine hfin (fuel + 1) listed a n r hsz hc (fun j => ?_) ha hr
      by_cases e : j < m
      · rw [hpre j e]; simp [e]
      · rw [hno j (by omega)]; simp [e]
    · have hlow : ∀ i ∈ Region.ready .any ops listed, i < m := fun i hi => by
        obtain ⟨h0, o, ho, hall⟩ := mem_ready.1 hi
        rcases Nat.lt_or_ge i m with h | h
        · exact h
        · exact absurd (fun j hj => hT _ hcl i o h ho hall j (by omega)) hpre
      refine ⟨fun hnil => ?_, fun i hi => ?_⟩
      · exfalso
        refine hpre fun j hj => ?_
        have hall : ∀ q i, i < q → i < m → listed.getD i false = true := by
          intro q
          induction q with
          | zero => intro i h; omega
          | succ q ihq =>
            intro i hiq him
            by_cases hl : listed.getD i false = true
            · exact hl
            · exfalso
              have : i ∈ Region.ready .any ops listed := by
                refine mem_ready.2 ⟨?_, ops[i], Array.getElem?_eq_getElem (by omega), fun e he hb => ?_⟩
                · have hil : i < listed.size := by omega
                  simp [hil] at hl ⊢
                  exact hl
                · have h1 := ((relB_spec hB).2 i ops[i] (Array.getElem?_eq_getElem (by omega))).1 e he hb
                  exact ihq e.on (by omega) (by omega)
              rw [hnil] at this
              cases this
        exact hall (j + 1) j (by omega) hj
      · have him := hlow i hi
        refine rel_step hB hst (fun o ho => hop i o him ho) hsz ha hr hi hcl fun a' n' r' ha' hr' => ih _ a' n' r' (by simpa using hsz) ?_ (fun j hj => ?_) ?_ ha' hr'
        · obtain ⟨h0, o, ho, _⟩ := mem_ready.1 hi
          have hio : i < ops.size := (Array.getElem?_eq_some_iff.1 ho).1
          have hil : i < listed.size := by omega
          have h1 := hunl listed i hsz hio h0
          have e : (fun j => (listed.setIfInBounds i true).getD j false) = fun j => decide (j = i) || listed.getD j false := funext fun j => by
            by_cases e : i = j
            · subst e; simp [hil]
            · rw [getD_set_ne false e]; simp [Ne.symm e]
          rw [e, cnt_set _ i h1, if_pos hio]
          omega
        · rw [getD_set_ne false (by omega)]
          exact hno j hj
        · intro j o ho hj e he hb
          by_cases e1 : i = j
          · subst e1
            obtain ⟨_, o', ho', hall⟩ := mem_ready.1 hi
            obtain rfl : o = o' := Option.some.inj (ho.symm.trans ho')
            exact getD_set_true (hall e he hb)
          · rw [getD_set_ne false e1] at hj
            exact getD_set_true (hcl j o ho hj e he hb)

theorem region_rel_tail {id : Nat} {Q : Exit → Act → World → Prop} {a : Act} {w : World} {l : List Oper} {b : Bool} (m : Nat) (hm : P.follows .mixedOrders = true) (hB : relB l.toArray = true) (hT : tailB l m = true)
    (h : wpRel P l.toArray w (fun a' w' => wpList P l.toArray Q (l.drop m) a' w') (l.take m) 0 (fun _ => a) []) : (Code.region id l.toArray b).wp P Q a w := by
  unfold tailB at hT
  rw [Bool.and_eq_true, decide_eq_true_eq, List.all_eq_true] at hT
  obtain ⟨hml, hT⟩ := hT
  have hlen : (l.take m).length = m := by rw [List.length_take]; omega
  have hsub : ∀ j, j < m → (l.take m)[j]? = l[j]? := fun j hj => by rw [List.getElem?_take, if_pos hj]
  obtain ⟨Rs, e1, e2, _, e4, e5⟩ := plan hB a _ (l.take m) 0 (fun _ => a) [] [] (fun r => r) (fun j hj => by rw [hsub j (by omega)]; simp) rfl (fun _ h => by cases h) (fun r => ⟨rfl, rfl, fun _ _ _ h => absurd h (by omega), fun _ _ => rfl⟩) (fun _ _ _ h => absurd h (by omega)) (fun _ h => by cases h) h
  rw [hlen, Nat.zero_add] at e1 e4 e5
  have hcl : ∀ L : Nat → Prop, Closed l.toArray L → ∀ i o, m ≤ i → l.toArray[i]? = some o → (∀ e ∈ o.after, Region.binds .any e = true → L e.on) → ∀ j, j < i → L j := by
    intro L hc i o hmi ho hL j hj
    have hil : i < l.length := by simpa using (Array.getElem?_eq_some_iff.1 ho).1
    have h1 := hT i (List.mem_range.2 hil)
    rw [Bool.or_eq_true, decide_eq_true_eq, List.all_eq_true] at h1
    have h2 := (h1.resolve_left (by omega)) j (List.mem_range.2 hj)
    exact masks_ok hc l [] (fun j => by simp) (fun i o h => absurd h (by simp)) i o (by simpa using hil) ho hL j h2
  have hany : ∀ n : Held w, wpAny P .any l.toArray Q l.toArray.size (Array.replicate l.toArray.size false) a n.w := fun n => by
    have hrep : ∀ j, (Array.replicate l.toArray.size false).getD j false = false := fun j => by
      rcases Nat.lt_or_ge j l.length with h' | h'
      · simp [h']
      · simp [Array.getElem?_eq_none, h']
    refine anyRelT (W := w) (a0 := a) (Rs := Rs) hB (by simpa using hml) hcl e2 (fun i o hi ho => e4 i o (Nat.zero_le _) ho hi) (fun r n a ha hr => ?_) _ _ _ n (fun _ => undef) (by simp) ?_ (fun j _ => hrep j) (fun j o ho hj => ?_) ?_ ?_
    · have := e5 r n a ha hr
      have hx := wpOps_eq_wpList (P := P) (ops := l.toArray) (Q := Q) (l.drop m) m (fun j => by simp [List.getElem?_drop])
      have hz : l.toArray.size - m = (l.drop m).length := by simp
      rw [hz, hx]
      exact this
    · have : (List.range l.toArray.size).countP (fun i => (Array.replicate l.toArray.size false).getD i false) = 0 := by
        rw [List.countP_eq_zero]
        intro j _
        rw [hrep j]; simp
      rw [this, Nat.add_zero]
    · exact absurd (show (Array.replicate l.toArray.size false).getD j false = true from hj) (by rw [hrep j]; simp)
    · exact ⟨rfl, rfl, fun j d _ h => absurd (show (Array.replicate l.toArray.size false).getD j false = true from h) (by rw [hrep j]; simp), fun _ _ => rfl⟩
    · exact fun j h => absurd h (by rw [hrep j]; simp)
  cases b
  · refine wp_region ?_
    rw [List.range_eq_range']
    exact any_lex hB _ 0 _ a w (by simp) (by simp) (fun j => by
      rcases Nat.lt_or_ge j l.length with h' | h'
      · simp [h']
      · simp [Array.getElem?_eq_none, h']) (hany ⟨w, Below.refl _ _⟩)
  · exact wp_region_any hm (hany ⟨w.drew, (Below.refl _ _).drew⟩)
end
end Go.Proofs.Ytaipiflbigpniaa
