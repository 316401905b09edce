/-
  Regions that draw their order and hold one operation that turns memory which was there (an append to a row of the call's own): all other operations leave what was there. The last ones, which stand behind all others, in the order of the text.
-/
import Derived.Test.YtaipiflbigpniaaTail
import Derived.Test.YtaipiflbigpniaaOnly
import Derived.Deep.AppendLies
namespace Go.Proofs.Ytaipiflbigpniaa
open Go.RowKit
set_option linter.unusedVariables false
set_option linter.unusedSimpArgs false

/-- What an operation gives, up to a relation, the worlds standing in G. -/
def relUponG (G : World → World → Prop) (P : Program) (R : Value → World → Prop) (w : World) : Result Next → Prop
  | .ok (.value u) w' => R u w' ∧ G w w'
  | .ok .skip w' => R undef w' ∧ G w w'
  | .ok (.enter f args) w' => Calls P f args w' fun e w'' => (∃ v, e = .returned v ∧ R v w'') ∧ G w w''
  | _ => False
def relAtG (G : World → World → Prop) (P : Program) (ops : Array Oper) (o : Oper) (a : Act) (w : World) (R : Value → World → Prop) : Prop :=
  if Region.wanted o (yielded ops a.tmps) then relUponG G P R w ((execOp a.eval o).run P w) else R undef w

/-- The operation at ia turns the blocks of S. -/
def Cl (S : List Nat) (ia : Nat) (W : World) (i : Nat) (w : World) : Prop := if i = ia then Below W.heap.size W w else Only S W w
def Gl (S : List Nat) (ia : Nat) (i : Nat) (w w' : World) : Prop := if i = ia then Only S w w' else Below w.heap.size w w'
def StaysS (S : List Nat) (R : Value → World → Prop) : Prop := ∀ v w w', Only S w w' → R v w → R v w'
def StaysI (S : List Nat) (ia i : Nat) (R : Value → World → Prop) : Prop := if i = ia then Stays R else StaysS S R
theorem StaysI.const (S : List Nat) (ia i : Nat) (x : Value) : StaysI S ia i (fun v _ => v = x) := by
  unfold StaysI
  split
  · exact fun _ _ _ _ h => h
  · exact fun _ _ _ _ h => h

def wpTurn (P : Program) (ops : Array Oper) (S : List Nat) (ia : Nat) (W : World) (Q : Act → World → Prop) : List Oper → Nat → ((Nat → Value) → Act) → Told → Prop
  | [], _, F, Fs => ∀ r w, Only S W w → (∀ x ∈ Fs, x.2 (r x.1) w) → Q (F r) w
  | o :: rest, i, F, Fs =>
    (∃ x, (∀ r w, Cl S ia W i w → given o Fs r w → relAtG (Gl S ia i) P ops o (F r) w fun v _ => v = x) ∧ wpTurn P ops S ia W Q rest (i + 1) (fun r => (F r).put o.dst x) Fs) ∨
    (∃ R, StaysI S ia i R ∧ (∀ r w, Cl S ia W i w → given o Fs r w → relAtG (Gl S ia i) P ops o (F r) w R) ∧ wpTurn P ops S ia W Q rest (i + 1) (fun r => (F r).put o.dst (r i)) (Fs ++ [(i, R)]))

section
variable {P : Program} {ops : Array Oper} {S : List Nat} {ia : Nat} {W : World}

/-- What an operation does hangs on what stands behind its edges alone. -/
theorem relAtG_of_agree {G : World → World → Prop} (hB : relB ops = true) {a0 a b : Act} {L M : Nat → Prop} {r s : Nat → Value} {i : Nat} {o : Oper} (ho : ops[i]? = some o)
    (ha : Agree ops a0 a L r) (hb : Agree ops a0 b M s) (hL : ∀ j, behind o j = true → L j ∧ M j ∧ r j = s j) (hN : ∀ j oj, ops[j]? = some oj → behind oj i = true → ¬ L j ∧ ¬ M j) {w : World} {R : Value → World → Prop} (h : relAtG G P ops o a w R) : relAtG G P ops o b w R := by
  obtain ⟨hns, hs⟩ := relB_spec hB
  have hsel := fun cs bb => Region.noSelect_spec hns i o cs bb ho
  have hat : ∀ t, t ∈ o.looksAt ops → a.tmps[t]? = b.tmps[t]? := by
    intro t ht
    by_cases hx : ∃ j : Nat, (ops[j]?).bind (fun o => o.dst) = some t
    · obtain ⟨j, hj⟩ := hx
      rcases ((hs i o ho).2 j t hj).2 ht with hbh | ⟨oj, hoj, hbh⟩
      rotate_left
      · obtain ⟨n1, n2⟩ := hN j oj hoj hbh
        have huniq : ∀ j', (ops[j']?).bind (fun o => o.dst) = some t → j' = j := fun j' hj' => by
          by_cases e : j' = j
          · exact e
          · have hoj' : oj.dst = some t := by rw [hoj] at hj; exact hj
            exact absurd hoj' (((hs j oj hoj).2 j' t hj').1 (Ne.symm e))
        rw [ha.off t fun j' hj' => by rw [huniq j' hj']; exact n1, hb.off t fun j' hj' => by rw [huniq j' hj']; exact n2]
      obtain ⟨h1, h2, h3⟩ := hL j hbh
      by_cases hlt : t < a0.tmps.size
      · rw [ha.on j t hj h1 hlt, hb.on j t hj h2 hlt, h3]
      · have hge : a0.tmps.size ≤ t := Nat.le_of_not_lt hlt
        rw [Array.getElem?_eq_none (by rw [ha.size]; exact hge), Array.getElem?_eq_none (by rw [hb.size]; exact hge)]
    · rw [ha.off t fun j hj => absurd ⟨j, hj⟩ hx, hb.off t fun j hj => absurd ⟨j, hj⟩ hx]
  have he : execOp a.eval o = execOp b.eval o := execOp_congr o hsel fun x hx => by
    cases x with
    | tmp t =>
      have := hat t (List.mem_append_left _ (List.mem_filterMap.2 ⟨.tmp t, by simpa using hx, rfl⟩))
      simp [Act.eval, this]
    | _ => rfl
  have hw : Region.wanted o (yielded ops a.tmps) = Region.wanted o (yielded ops b.tmps) := by
    unfold Region.wanted
    cases hg : o.guard with
    | none => rfl
    | some gw =>
      obtain ⟨g, want⟩ := gw
      have hy : yielded ops a.tmps g = yielded ops b.tmps g := by
        unfold yielded
        cases ht : (ops[g]?).bind (·.dst) with
        | none => rfl
        | some t =>
          have := hat t (List.mem_append_right _ (by simp [hg, ht]))
          simp [this]
      simp only [hy]
  unfold relAtG at *
  rw [he, hw] at h
  exact h

def opTurn (P : Program) (ops : Array Oper) (S : List Nat) (ia : Nat) (W : World) (a0 : Act) (Rs : List Rel) (i : Nat) (o : Oper) : Prop :=
  ∀ a L r w, Cl S ia W i w → Agree ops a0 a L r → (∀ j, behind o j = true → L j ∧ (Rs.getD j fun _ _ => True) (r j) w) → (∀ j oj, ops[j]? = some oj → behind oj i = true → ¬ L j) → relAtG (Gl S ia i) P ops o a w (Rs.getD i fun _ _ => True)

theorem tplan (hB : relB ops = true) (a0 : Act) (Q : Act → World → Prop) : ∀ (l : List Oper) (k : Nat) (F : (Nat → Value) → Act) (Fs : Told) (Rs : List Rel) (hat : (Nat → Value) → Nat → Value),
    (∀ j, j < l.length → l[j]? = ops[k + j]?) → Rs.length = k → (∀ j R, Rs[j]? = some R → StaysI S ia j R) → (∀ r, Agree ops a0 (F r) (· < k) (hat r)) → (∀ r j w, j < k → (Rs.getD j fun _ _ => True) (r j) w → hat r j = r j) →
    (∀ x ∈ Fs, x.1 < k ∧ Rs[x.1]? = some x.2) → wpTurn P ops S ia W Q l k F Fs →
    ∃ Rs' : List Rel, Rs'.length = k + l.length ∧ (∀ j R, Rs'[j]? = some R → StaysI S ia j R) ∧ (∀ j, j < k → Rs'[j]? = Rs[j]?) ∧ (∀ i o, k ≤ i → ops[i]? = some o → i < k + l.length → opTurn P ops S ia W a0 Rs' i o) ∧
      ∀ r w a, Only S W w → Agree ops a0 a (· < k + l.length) r → (∀ j, j < k + l.length → (Rs'.getD j fun _ _ => True) (r j) w) → Q a w
  | [], k, F, Fs, Rs, hat, _, hlen, hst, hag, hhat, hFs, h => by
    refine ⟨Rs, by simpa using hlen, hst, fun _ _ => rfl, fun i o h1 _ h2 => absurd h2 (by simp; omega), fun r w a hw ha hR => ?_⟩
    simp only [List.length_nil, Nat.add_zero] at ha hR
    have e : F r = a := by
      have hF := hag r
      have h1 : (F r).tmps = a.tmps := by
        apply Array.ext_getElem?
        intro t
        by_cases hx : ∃ j, (ops[j]?).bind (·.dst) = some t ∧ j < k
        · obtain ⟨j, hj, hjk⟩ := hx
          by_cases hlt : t < a0.tmps.size
          · rw [hF.on j t hj hjk hlt, ha.on j t hj hjk hlt, hhat r j w hjk (hR j hjk)]
          · rw [Array.getElem?_eq_none (by rw [hF.size]; omega), Array.getElem?_eq_none (by rw [ha.size]; omega)]
        · rw [hF.off t fun j hj hl => hx ⟨j, hj, hl⟩, ha.off t fun j hj hl => hx ⟨j, hj, hl⟩]
      have h2 : (F r).defers = a.defers := by rw [hF.defers, ha.defers]
      cases hc : F r; cases a; rw [hc] at h1 h2; simp only at h1 h2; subst h1; subst h2; rfl
    rw [← e]
    exact h r w hw fun x hx => by
      obtain ⟨h1, h2⟩ := hFs x hx
      have := hR x.1 h1
      rw [List.getD_eq_getElem?_getD, h2] at this
      exact this
  | o :: l, k, F, Fs, Rs, hat, hl, hlen, hst, hag, hhat, hFs, h => by
    have h0 : ops[k]? = some o := by simpa using (hl 0 (by simp)).symm
    have hl' : ∀ j, j < l.length → l[j]? = ops[k + 1 + j]? := fun j hj => by have := hl (j + 1) (by simp; omega); simpa [Nat.add_assoc, Nat.add_comm 1 j] using this
    obtain ⟨R, F', Fs', hat', hR, hstep, hag', hhat', hFs', hrest⟩ : ∃ (R : Rel) (F' : (Nat → Value) → Act) (Fs' : Told) (hat' : (Nat → Value) → Nat → Value), StaysI S ia k R ∧ (∀ r w, Cl S ia W k w → given o Fs r w → relAtG (Gl S ia k) P ops o (F r) w R) ∧
        (∀ r, Agree ops a0 (F' r) (· < k + 1) (hat' r)) ∧ (∀ r j w, j < k + 1 → ((Rs ++ [R]).getD j fun _ _ => True) (r j) w → hat' r j = r j) ∧ (∀ x ∈ Fs', x.1 < k + 1 ∧ (Rs ++ [R])[x.1]? = some x.2) ∧ wpTurn P ops S ia W Q l (k + 1) F' Fs' := by
      have hkeep : ∀ (R : Rel) (x : Nat × Rel), x ∈ Fs → x.1 < k + 1 ∧ (Rs ++ [R])[x.1]? = some x.2 := fun R x hx => by
        obtain ⟨h1, h2⟩ := hFs x hx
        exact ⟨by omega, by rw [List.getElem?_append_left (by omega)]; exact h2⟩
      have hlt : ∀ (R : Rel) (r : Nat → Value) (j : Nat) (w : World), j < k → ((Rs ++ [R]).getD j fun _ _ => True) (r j) w → hat r j = r j := fun R r j w hj hr => by
        refine hhat r j w hj ?_
        rw [List.getD_eq_getElem?_getD, List.getElem?_append_left (by omega)] at hr
        rw [List.getD_eq_getElem?_getD]
        exact hr
      have hk : ∀ (R : Rel) (v : Value) (w : World), ((Rs ++ [R]).getD k fun _ _ => True) v w → R v w := fun R v w hr => by
        rw [List.getD_eq_getElem?_getD, List.getElem?_append_right (by omega), hlen] at hr
        simpa using hr
      have hput : ∀ (r : Nat → Value) (v : Value), Agree ops a0 ((F r).put o.dst v) (· < k + 1) (fun j => if j = k then v else hat r j) := fun r v => by
        have := (hag r).put hB h0 (Nat.lt_irrefl k) v
        have e : (fun j => j < k ∨ j = k) = (· < k + 1) := funext fun j => propext (by omega)
        rw [e] at this
        exact this
      unfold wpTurn at h
      rcases h with ⟨x, h1, h2⟩ | ⟨R, hR, h1, h2⟩
      · refine ⟨fun v _ => v = x, _, _, fun r j => if j = k then x else hat r j, StaysI.const _ _ _ _, h1, fun r => hput r x, fun r j w hj hr => ?_, fun y hy => hkeep _ y hy, h2⟩
        by_cases e : j = k
        · subst e; simp only [if_true]; exact (hk _ _ _ hr).symm
        · simp only [if_neg e]; exact hlt _ r j w (by omega) hr
      · refine ⟨R, _, _, fun r j => if j = k then r k else hat r j, hR, h1, fun r => hput r (r k), fun r j w hj hr => ?_, fun y hy => ?_, h2⟩
        · by_cases e : j = k
          · subst e; simp
          · simp only [if_neg e]; exact hlt _ r j w (by omega) hr
        · rcases List.mem_append.1 hy with hy | hy
          · exact hkeep _ y hy
          · simp only [List.mem_singleton] at hy
            subst hy
            exact ⟨Nat.lt_succ_self k, by rw [List.getElem?_append_right (by omega), hlen]; simp⟩
    obtain ⟨Rs', e1, e2, e3, e4, e5⟩ := tplan hB a0 Q l (k + 1) F' Fs' (Rs ++ [R]) hat' hl' (by simp [hlen]) (fun j R' hj => by
      by_cases e : j < k
      · rw [List.getElem?_append_left (by omega)] at hj
        exact hst j R' hj
      · rw [List.getElem?_append_right (by omega), hlen] at hj
        have h0 : j - k = 0 := by have := (List.getElem?_eq_some_iff.1 hj).1; simp at this; omega
        rw [h0] at hj
        obtain rfl : R = R' := by simpa using hj
        obtain rfl : j = k := by omega
        exact hR) hag' hhat' hFs' hrest
    have eL : k + (l.length + 1) = k + 1 + l.length := by omega
    refine ⟨Rs', by rw [e1, List.length_cons]; omega, e2, fun j hj => by rw [e3 j (by omega), List.getElem?_append_left (by omega)], fun i oi hi ho hlt => ?_, fun r w a hw ha hr => ?_⟩
    · rw [List.length_cons] at hlt
      by_cases e : i = k
      · subst e
        have : oi = o := Option.some.inj (ho.symm.trans h0)
        subst this
        intro a L r w hw ha hL hNL
        have eR : Rs'.getD i (fun _ _ => True) = R := by
          rw [List.getD_eq_getElem?_getD, e3 i (by omega), List.getElem?_append_right (by omega), hlen]; simp
        rw [eR]
        have hj : ∀ j, behind oi j = true → j < i := fun j hj => by
          obtain ⟨e, he, h1, h2⟩ := behind_iff.1 hj
          rw [← h1]
          exact ((relB_spec hB).2 i oi h0).1 e he h2
        have eRj : ∀ j, j < i → Rs'.getD j (fun _ _ => True) = Rs.getD j fun _ _ => True := fun j hj => by
          rw [List.getD_eq_getElem?_getD, e3 j (by omega), List.getElem?_append_left (by omega), List.getD_eq_getElem?_getD]
        refine relAtG_of_agree hB h0 (hag r) ha (fun j hb => ⟨hj j hb, (hL j hb).1, ?_⟩) (fun j oj hoj hb => ⟨fun hlt => ?_, hNL j oj hoj hb⟩) (hstep r w hw ?_)
        · refine hhat r j w (hj j hb) ?_
          rw [← eRj j (hj j hb)]
          exact (hL j hb).2
        · obtain ⟨e, he, h1, h2⟩ := behind_iff.1 hb
          have h3 := ((relB_spec hB).2 j oj hoj).1 e he h2
          have hlt' : j < i := hlt
          omega
        · intro x hx hb
          obtain ⟨h1, h2⟩ := hFs x hx
          have := (hL x.1 hb).2
          rw [eRj x.1 h1, List.getD_eq_getElem?_getD, h2] at this
          exact this
      · exact e4 i oi (by omega) ho (by omega)
    · rw [List.length_cons] at ha hr
      exact e5 r w a hw (by rw [← eL]; exact ha) (fun j hj => hr j (by omega))

theorem turn_step (hB : relB ops = true) {a0 : Act} {Q : Exit → Act → World → Prop} {Rs : List Rel} (hst : ∀ j R, Rs[j]? = some R → StaysI S ia j R) {i : Nat} (hop : ∀ o, ops[i]? = some o → opTurn P ops S ia W a0 Rs i o)
    {listed : Array Bool} {a : Act} {w : World} {r : Nat → Value} {K : Act → World → Prop} (hw : Only S W w) (hwb : listed.getD ia false = false → Below W.heap.size W w) (hsz : listed.size = ops.size) (ha : Agree ops a0 a (fun j => listed.getD j false = true) r)
    (hr : ∀ j, listed.getD j false = true → (Rs.getD j fun _ _ => True) (r j) w) (hi : i ∈ Region.ready .any ops listed) (hcl : ∀ j o, ops[j]? = some o → listed.getD j false = true → ∀ e ∈ o.after, Region.binds .any e = true → listed.getD e.on false = true)
    (hK : ∀ a' w' r', Only S W w' → ((listed.setIfInBounds i true).getD ia false = false → Below W.heap.size W w') → Agree ops a0 a' (fun j => (listed.setIfInBounds i true).getD j false = true) r' → (∀ j, (listed.setIfInBounds i true).getD j false = true → (Rs.getD j fun _ _ => True) (r' j) w') → K a' w') : wpOp P ops Q i K a w := by
  obtain ⟨hl, o, ho, hall⟩ := mem_ready.1 hi
  have hio : i < ops.size := (Array.getElem?_eq_some_iff.1 ho).1
  have hlf : ¬ listed.getD i false = true := by
    have hil : i < listed.size := by omega
    simp [hil] at hl ⊢
    exact hl
  have hcl' : Cl S ia W i w := by
    unfold Cl
    split
    · rename_i e
      subst e
      exact hwb (by simpa using hlf)
    · exact hw
  have hspec := hop o ho a _ r w hcl' ha (fun j hb => by
    obtain ⟨e, he, h1, h2⟩ := behind_iff.1 hb
    subst h1
    exact ⟨hall e he h2, hr _ (hall e he h2)⟩) (fun j oj hoj hb hlj => by
    obtain ⟨e, he, h1, h2⟩ := behind_iff.1 hb
    have := hcl j oj hoj hlj e he h2
    rw [h1] at this
    exact hlf this)
  have hnext : ∀ (v : Value) (w' : World), Gl S ia i w w' → (Rs.getD i fun _ _ => True) v w' → K (a.put o.dst v) w' := by
    intro v w' hb hR
    have hset : ∀ j, ((listed.setIfInBounds i true).getD j false = true) ↔ (listed.getD j false = true ∨ j = i) := fun j => by
      by_cases e : i = j
      · subst e
        have hil : i < listed.size := by omega
        simp [hil]
      · rw [getD_set_ne false e]
        exact ⟨.inl, fun h => h.resolve_right (Ne.symm e)⟩
    have hb2 : Only S w w' := by
      unfold Gl at hb
      split at hb
      · exact hb
      · exact Only.of_below hb
    refine hK _ w' (fun j => if j = i then v else r j) (hw.trans hb2) (fun hf => ?_) ?_ fun j hj => ?_
    · have hne : i ≠ ia := fun e => by
        subst e
        have := (hset i).2 (.inr rfl)
        rw [hf] at this
        cases this
      have hf' : listed.getD ia false = false := by
        rw [getD_set_ne false hne] at hf
        exact hf
      unfold Gl at hb
      rw [if_neg hne] at hb
      have h9 := hwb hf'
      exact h9.trans (hb.mono h9.size)
    · have := ha.put hB ho hlf v
      have e : (fun j => listed.getD j false = true ∨ j = i) = (fun j => (listed.setIfInBounds i true).getD j false = true) := funext fun j => propext (hset j).symm
      rw [e] at this
      exact this
    · by_cases e : j = i
      · subst e; simp only [if_true]; exact hR
      · simp only [if_neg e]
        have hjl := ((hset j).1 hj).resolve_right e
        have hrj := hr j hjl
        rw [List.getD_eq_getElem?_getD] at hrj ⊢
        cases hx : Rs[j]? with
        | none => trivial
        | some x =>
          rw [hx] at hrj
          have hs := hst j x hx
          unfold StaysI at hs
          split at hs
          · rename_i ej
            subst ej
            unfold Gl at hb
            rw [if_neg (fun e9 => e e9.symm)] at hb
            exact hs _ _ _ hb hrj
          · exact hs _ _ _ hb2 hrj
  unfold wpOp
  simp only [ho]
  unfold relAtG at hspec
  split
  · rename_i hw
    rw [if_pos hw] at hspec
    refine .inl ?_
    unfold Oper.wp
    generalize (execOp a.eval o).run P w = x at hspec ⊢
    cases x with
    | ok y w' =>
      cases y <;> simp only [relUponG] at hspec <;> simp only [Oper.upon]
      case value u => exact hnext u w' hspec.2 hspec.1
      case skip => exact hnext undef w' hspec.2 hspec.1
      case enter f args =>
        refine hspec.mono fun e w'' h => ?_
        obtain ⟨⟨v, rfl, hR⟩, hb⟩ := h
        exact hnext v w'' hb hR
    | halt x w' => simp only [relUponG] at hspec
  · rename_i hw
    rw [if_neg hw] at hspec
    exact hnext undef w (by unfold Gl; split; exact Only.refl _ _; exact Below.refl _ _) hspec

theorem anyTurnT (hB : relB ops = true) {m : Nat} (hmn : m ≤ ops.size) (hT : ∀ L : Nat → Prop, Closed ops L → ∀ i o, m ≤ i → ops[i]? = some o → (∀ e ∈ o.after, Region.binds .any e = true → L e.on) → ∀ j, j < i → L j)
    {a0 : Act} {Q : Exit → Act → World → Prop} {Rs : List Rel} (hst : ∀ j R, Rs[j]? = some R → StaysI S ia j R)
    (hop : ∀ i o, i < m → ops[i]? = some o → opTurn P ops S ia W a0 Rs i o)
    (hQ : ∀ r w a, Only S W w → Agree ops a0 a (· < m) r → (∀ j, j < m → (Rs.getD j fun _ _ => True) (r j) w) → wpOps P ops Q (List.range' m (ops.size - m)) a w) :
    ∀ (fuel : Nat) (listed : Array Bool) (a : Act) (w : World) (r : Nat → Value), Only S W w → (listed.getD ia false = false → Below W.heap.size W w) → listed.size = ops.size → fuel + (List.range ops.size).countP (fun i => listed.getD i false) = ops.size →
      (∀ j, m ≤ j → listed.getD j false = false) → Closed ops (fun j => listed.getD j false = true) →
      Agree ops a0 a (fun j => listed.getD j false = true) r → (∀ j, listed.getD j false = true → (Rs.getD j fun _ _ => True) (r j) w) → wpAny P .any ops Q fuel listed a w := by
  have hunl : ∀ (listed : Array Bool) (i : Nat), listed.size = ops.size → i < ops.size → listed.getD i true = false → listed.getD i false = false := fun listed i hsz hi h => by
    have hil : i < listed.size := by omega
    simp [hil] at h ⊢
    exact h
  have hone : ∀ k listed, (∀ j, listed.getD j false = decide (j < k)) → listed.size = ops.size → m ≤ k → ∀ i ∈ Region.ready .any ops listed, i = k := by
    intro k listed hl hsz hmk i hi
    obtain ⟨h0, o, ho, hall⟩ := mem_ready.1 hi
    have hio : i < ops.size := (Array.getElem?_eq_some_iff.1 ho).1
    have h1 := hunl listed i hsz hio h0
    rw [hl] at h1
    have hki : ¬ i < k := by simpa using h1
    by_cases e : i = k
    · exact e
    · have hcl : Closed ops (fun j => listed.getD j false = true) := fun j o ho hj e he hb => by
        show listed.getD e.on false = true
        have hj : listed.getD j false = true := hj
        rw [hl] at hj ⊢
        have := ((relB_spec hB).2 j o ho).1 e he hb
        simp at hj ⊢
        omega
      have := hT _ hcl i o (by omega) ho hall k (by omega)
      rw [hl] at this
      simp at this
  have hall' : ∀ k' (listed' : Array Bool), k' < ops.size → listed'.size = ops.size → (∀ j, listed'.getD j false = decide (j < k')) → k' ∈ Region.ready .any ops listed' := by
    intro k listed hk hsz hl
    have hkl : k < listed.size := by omega
    refine mem_ready.2 ⟨?_, ops[k], Array.getElem?_eq_getElem hk, fun e he hb => ?_⟩
    · have := hl k
      simp [hkl] at this ⊢
      exact this
    · have := ((relB_spec hB).2 k _ (Array.getElem?_eq_getElem hk)).1 e he hb
      rw [hl]
      exact decide_eq_true this
  have hfin : ∀ (fuel : Nat) (listed : Array Bool) (a : Act) (w : World) (r : Nat → Value), Only S W w → (listed.getD ia false = false → Below W.heap.size W w) → listed.size = ops.size → fuel + (List.range ops.size).countP (fun i => listed.getD i false) = ops.size →
      (∀ j, listed.getD j false = decide (j < m)) → Agree ops a0 a (fun j => listed.getD j false = true) r → (∀ j, listed.getD j false = true → (Rs.getD j fun _ _ => True) (r j) w) → wpAny P .any ops Q fuel listed a w := by
    intro fuel listed a w r hw hwb hsz hc hl ha hr
    have e1 : (fun i => listed.getD i false) = fun i => decide (i < m) := funext hl
    rw [e1, cnt_first m ops.size hmn] at hc
    have e2 : (fun j => listed.getD j false = true) = (· < m) := funext fun j => propext (by rw [hl]; simp)
    rw [e2] at ha
    have hq := hQ r w a hw ha fun j hj => hr j (by rw [hl]; exact decide_eq_true hj)
    obtain rfl : fuel = ops.size - m := by omega
    refine any_tail hone _ m listed a w (Nat.le_refl m) (by omega) hsz hl ?_ (fun k' l' _ h2 h3 h4 => hall' k' l' h2 h3 h4) hq
    by_cases e : ops.size - m = 0
    · exact .inl e
    · exact .inr (hall' m listed (by omega) hsz hl)
  intro fuel
  induction fuel with
  | zero =>
    intro listed a w r hw hwb hsz hc hno hcl ha hr
    have hfull : ∀ j, j < ops.size → listed.getD j false = true := fun j hj => by
      have : (List.range ops.size).countP (fun i => listed.getD i false) = (List.range ops.size).length := by simpa using hc
      exact List.countP_eq_length.1 this j (List.mem_range.2 hj)
    refine hfin 0 listed a w r hw hwb hsz hc (fun j => ?_) ha hr
    by_cases e : j < m
    · rw [hfull j (by omega)]; simp [e]
    · rw [hno j (by omega)]; simp [e]
  | succ fuel ih =>
    intro listed a w r hw hwb hsz hc hno hcl ha hr
    by_cases hpre : ∀ j, j < m → listed.getD j false = true
    · refine hfin (fuel + 1) listed a w r hw hwb hsz hc (fun j => ?_) ha hr
      by_cases e : j < m
      · rw [hpre j e]; simp [e]
      · rw [hno j (by omega)]; simp [e]
    · have hlow : ∀ i ∈ Region.ready .any ops listed, i < m := fun i hi => by
        obtain ⟨h0, o, ho, hall⟩ := mem_ready.1 hi
        rcases Nat.lt_or_ge i m with h | h
        · exact h
        · exact absurd (fun j hj => hT _ hcl i o h ho hall j (by omega)) hpre
      refine ⟨fun hnil => ?_, fun i hi => ?_⟩
      · exfalso
        refine hpre fun j hj => ?_
        have hall : ∀ q i, i < q → i < m → listed.getD i false = true := by
          intro q
          induction q with
          | zero => intro i h; omega
          | succ q ihq =>
            intro i hiq him
            by_cases hl : listed.getD i false = true
            · exact hl
            · exfalso
              have : i ∈ Region.ready .any ops listed := by
                refine mem_ready.2 ⟨?_, ops[i], Array.getElem?_eq_getElem (by omega), fun e he hb => ?_⟩
                · have hil : i < listed.size := by omega
                  simp [hil] at hl ⊢
                  exact hl
                · have h1 := ((relB_spec hB).2 i ops[i] (Array.getElem?_eq_getElem (by omega))).1 e he hb
                  exact ihq e.on (by omega) (by omega)
              rw [hnil] at this
              cases this
        exact hall (j + 1) j (by omega) hj
      · have him := hlow i hi
        refine turn_step hB hst (fun o ho => hop i o him ho) hw hwb hsz ha hr hi hcl fun a' w' r' hw' hwb' ha' hr' => ih _ a' w' r' hw' hwb' (by simpa using hsz) ?_ (fun j hj => ?_) ?_ ha' hr'
        · obtain ⟨h0, o, ho, _⟩ := mem_ready.1 hi
          have hio : i < ops.size := (Array.getElem?_eq_some_iff.1 ho).1
          have hil : i < listed.size := by omega
          have h1 := hunl listed i hsz hio h0
          have e : (fun j => (listed.setIfInBounds i true).getD j false) = fun j => decide (j = i) || listed.getD j false := funext fun j => by
            by_cases e : i = j
            · subst e; simp [hil]
            · rw [getD_set_ne false e]; simp [Ne.symm e]
          rw [e, cnt_set _ i h1, if_pos hio]
          omega
        · rw [getD_set_ne false (by omega)]
          exact hno j hj
        · intro j o ho hj e he hb
          by_cases e1 : i = j
          · subst e1
            obtain ⟨_, o', ho', hall⟩ := mem_ready.1 hi
            obtain rfl : o = o' := Option.some.inj (ho.symm.trans ho')
            exact getD_set_true (hall e he hb)
          · rw [getD_set_ne false e1] at hj
            exact getD_set_true (hcl j o ho hj e he hb)

theorem region_turn {id : Nat} {Q : Exit → Act → World → Prop} {a : Act} {w : World} {l : List Oper} {b : Bool} (S : List Nat) (ia m : Nat) (hm : P.follows .mixedOrders = true) (hB : relB l.toArray = true) (hT : tailB l m = true)
    (h : wpTurn P l.toArray S ia w (fun a' w' => wpList P l.toArray Q (l.drop m) a' w') (l.take m) 0 (fun _ => a) []) : (Code.region id l.toArray b).wp P Q a w := by
  unfold tailB at hT
  rw [Bool.and_eq_true, decide_eq_true_eq, List.all_eq_true] at hT
  obtain ⟨hml, hT⟩ := hT
  have hlen : (l.take m).length = m := by rw [List.length_take]; omega
  have hsub : ∀ j, j < m → (l.take m)[j]? = l[j]? := fun j hj => by rw [List.getElem?_take, if_pos hj]
  obtain ⟨Rs, e1, e2, _, e4, e5⟩ := tplan hB a _ (l.take m) 0 (fun _ => a) [] [] (fun r => r) (fun j hj => by rw [hsub j (by omega)]; simp) rfl (fun _ _ h => by simp at h) (fun r => ⟨rfl, rfl, fun _ _ _ h => absurd h (by omega), fun _ _ => rfl⟩) (fun _ _ _ h => absurd h (by omega)) (fun _ h => by cases h) h
  rw [hlen, Nat.zero_add] at e1 e4 e5
  have hcl : ∀ L : Nat → Prop, Closed l.toArray L → ∀ i o, m ≤ i → l.toArray[i]? = some o → (∀ e ∈ o.after, Region.binds .any e = true → L e.on) → ∀ j, j < i → L j := by
    intro L hc i o hmi ho hL j hj
    have hil : i < l.length := by simpa using (Array.getElem?_eq_some_iff.1 ho).1
    have h1 := hT i (List.mem_range.2 hil)
    rw [Bool.or_eq_true, decide_eq_true_eq, List.all_eq_true] at h1
    have h2 := (h1.resolve_left (by omega)) j (List.mem_range.2 hj)
    exact masks_ok hc l [] (fun j => by simp) (fun i o h => absurd h (by simp)) i o (by simpa using hil) ho hL j h2
  have hany : ∀ n : Held w, wpAny P .any l.toArray Q l.toArray.size (Array.replicate l.toArray.size false) a n.w := fun n => by
    have hrep : ∀ j, (Array.replicate l.toArray.size false).getD j false = false := fun j => by
      rcases Nat.lt_or_ge j l.length with h' | h'
      · simp [h']
      · simp [Array.getElem?_eq_none, h']
    refine anyTurnT (W := w) (a0 := a) (Rs := Rs) hB (by simpa using hml) hcl e2 (fun i o hi ho => e4 i o (Nat.zero_le _) ho hi) (fun r w a hw ha hr => ?_) _ _ _ n.w (fun _ => undef) (Only.of_below n.below) (fun _ => n.below) (by simp) ?_ (fun j _ => hrep j) (fun j o ho hj => ?_) ?_ ?_
    · have := e5 r w a hw ha hr
      have hx := wpOps_eq_wpList (P := P) (ops := l.toArray) (Q := Q) (l.drop m) m (fun j => by simp [List.getElem?_drop])
      have hz : l.toArray.size - m = (l.drop m).length := by simp
      rw [hz, hx]
      exact this
    · have : (List.range l.toArray.size).countP (fun i => (Array.replicate l.toArray.size false).getD i false) = 0 := by
        rw [List.countP_eq_zero]
        intro j _
        rw [hrep j]; simp
      rw [this, Nat.add_zero]
    · exact absurd (show (Array.replicate l.toArray.size false).getD j false = true from hj) (by rw [hrep j]; simp)
    · exact ⟨rfl, rfl, fun j d _ h => absurd (show (Array.replicate l.toArray.size false).getD j false = true from h) (by rw [hrep j]; simp), fun _ _ => rfl⟩
    · exact fun j h => absurd h (by rw [hrep j]; simp)
  cases b
  · refine wp_region ?_
    rw [List.range_eq_range']
    exact any_lex hB _ 0 _ a w (by simp) (by simp) (fun j => by
      rcases Nat.lt_or_ge j l.length with h' | h'
      · simp [h']
      · simp [Array.getElem?_eq_none, h']) (hany ⟨w, Below.refl _ _⟩)
  · exact wp_region_any hm (hany ⟨w.drew, (Below.refl _ _).drew⟩)
end

/-- A world in which what was there when W began is as it was, but for the blocks of S. -/
structure HeldS (S : List Nat) (W : World) where
  w : World
  only : Only S W w
theorem heldS_cell {S : List Nat} (W : World) (n : HeldS S W) (b o : Nat) (h : b < W.heap.size) (hs : b ∉ S) : n.w.cell? ⟨b, o, none⟩ = W.cell? ⟨b, o, none⟩ := World.cell?_of_block (n.only.block b h hs)
theorem heldS_frozen {S : List Nat} (W : World) (n : HeldS S W) (b o : Nat) (h : b < W.heap.size) (hs : b ∉ S) : n.w.frozen? ⟨b, o, none⟩ = W.frozen? ⟨b, o, none⟩ := World.frozen?_of_block (n.only.block b h hs)
theorem upon_gl {S : List Nat} {ia i : Nat} (hi : i ≠ ia) {P : Program} {R : Value → World → Prop} {w : World} {x : Result Next} (h : relUpon P R w x) : relUponG (Gl S ia i) P R w x := by
  have e : Gl S ia i = fun w w' => Below w.heap.size w w' := by
    funext w w'
    unfold Gl
    rw [if_neg hi]
  rw [e]
  cases x with
  | ok y w' => cases y <;> exact h
  | halt => exact h
section
variable {P : Program} {ops : Array Oper} {S : List Nat} {ia : Nat} {W : World} {Q : Act → World → Prop}
theorem at_gl {i : Nat} (hi : i ≠ ia) {o : Oper} {a : Act} {w : World} {R : Value → World → Prop} (h : relAt P ops o a w R) : relAtG (Gl S ia i) P ops o a w R := by
  unfold relAt at h
  unfold relAtG
  split
  · rename_i hw
    rw [if_pos hw] at h
    exact upon_gl hi h
  · rename_i hw
    rw [if_neg hw] at h
    exact h
theorem cl_only {i : Nat} (hi : i ≠ ia) {w : World} (h : Cl S ia W i w) : Only S W w := by
  unfold Cl at h
  rwa [if_neg hi] at h
theorem turnStep {o : Oper} {rest : List Oper} {i : Nat} {F : (Nat → Value) → Act} {Fs : Told}
    (h : ∀ K : ((Nat → Value) → Act) → Told → Prop, (∀ F Fs, wpTurn P ops S ia W Q rest (i + 1) F Fs → K F Fs) →
      (∃ x, (∀ r w, Cl S ia W i w → given o Fs r w → relAtG (Gl S ia i) P ops o (F r) w fun v _ => v = x) ∧ K (fun r => (F r).put o.dst x) Fs) ∨
      (∃ R, StaysI S ia i R ∧ (∀ r w, Cl S ia W i w → given o Fs r w → relAtG (Gl S ia i) P ops o (F r) w R) ∧ K (fun r => (F r).put o.dst (r i)) (Fs ++ [(i, R)]))) : wpTurn P ops S ia W Q (o :: rest) i F Fs :=
  h _ fun _ _ h => h
theorem turnNil {i : Nat} {F : (Nat → Value) → Act} {Fs : Told} (h : ∀ r (n : HeldS S W), (∀ x ∈ Fs, x.2 (r x.1) n.w) → Q (F r) n.w) : wpTurn P ops S ia W Q [] i F Fs := fun r w hw hx => h r ⟨w, hw⟩ hx
theorem turnInl {o : Oper} {i : Nat} (hi : i ≠ ia) {F : (Nat → Value) → Act} {Fs : Told} {K : ((Nat → Value) → Act) → Told → Prop} {x : Value} (h1 : ∀ r (n : HeldS S W), given o Fs r n.w → relAt P ops o (F r) n.w fun v _ => v = x) (h2 : K (fun r => (F r).put o.dst x) Fs) :
    (∃ x, (∀ r w, Cl S ia W i w → given o Fs r w → relAtG (Gl S ia i) P ops o (F r) w fun v _ => v = x) ∧ K (fun r => (F r).put o.dst x) Fs) ∨
      (∃ R, StaysI S ia i R ∧ (∀ r w, Cl S ia W i w → given o Fs r w → relAtG (Gl S ia i) P ops o (F r) w R) ∧ K (fun r => (F r).put o.dst (r i)) (Fs ++ [(i, R)])) :=
  .inl ⟨x, fun r w hw hg => at_gl hi (h1 r ⟨w, cl_only hi hw⟩ hg), h2⟩
theorem turnInr {o : Oper} {i : Nat} (hi : i ≠ ia) {F : (Nat → Value) → Act} {Fs : Told} {K : ((Nat → Value) → Act) → Told → Prop} (R : Value → World → Prop) (hR : StaysS S R) (h1 : ∀ r (n : HeldS S W), given o Fs r n.w → relAt P ops o (F r) n.w R) (h2 : K (fun r => (F r).put o.dst (r i)) (Fs ++ [(i, R)])) :
    (∃ x, (∀ r w, Cl S ia W i w → given o Fs r w → relAtG (Gl S ia i) P ops o (F r) w fun v _ => v = x) ∧ K (fun r => (F r).put o.dst x) Fs) ∨
      (∃ R, StaysI S ia i R ∧ (∀ r w, Cl S ia W i w → given o Fs r w → relAtG (Gl S ia i) P ops o (F r) w R) ∧ K (fun r => (F r).put o.dst (r i)) (Fs ++ [(i, R)])) :=
  .inr ⟨R, by unfold StaysI; rw [if_neg hi]; exact hR, fun r w hw hg => at_gl hi (h1 r ⟨w, cl_only hi hw⟩ hg), h2⟩
theorem turnApp {o : Oper} {i : Nat} (hi : i = ia) {F : (Nat → Value) → Act} {Fs : Told} {K : ((Nat → Value) → Act) → Told → Prop} (R : Value → World → Prop) (hR : Stays R) (h1 : ∀ r (n : Held W), given o Fs r n.w → relAtG (fun w w' => Only S w w') P ops o (F r) n.w R) (h2 : K (fun r => (F r).put o.dst (r i)) (Fs ++ [(i, R)])) :
    (∃ x, (∀ r w, Cl S ia W i w → given o Fs r w → relAtG (Gl S ia i) P ops o (F r) w fun v _ => v = x) ∧ K (fun r => (F r).put o.dst x) Fs) ∨
      (∃ R, StaysI S ia i R ∧ (∀ r w, Cl S ia W i w → given o Fs r w → relAtG (Gl S ia i) P ops o (F r) w R) ∧ K (fun r => (F r).put o.dst (r i)) (Fs ++ [(i, R)])) := by
  refine .inr ⟨R, by unfold StaysI; rw [if_pos hi]; exact hR, fun r w hw hg => ?_, h2⟩
  unfold Cl at hw
  rw [if_pos hi] at hw
  have h := h1 r ⟨w, hw⟩ hg
  have e : Gl S ia i = fun w w' => Only S w w' := by
    funext w w'
    unfold Gl
    rw [if_pos hi]
  rw [e]
  exact h
/-- The append itself. -/
theorem turn_append {o : Oper} {a : Act} {w : World} {R : Value → World → Prop} (hgd : o.guard = none) (s x : Operand) (t : TypeId)
    (ho : o.op = .call { callee := .builtin .append, args := #[s, x], argTypes := #[t, t] })
    (base : Nat) (e : TypeId) (i : TypeInfo) (z : Value) (size bytes : Nat) (ht : P.underlying t = some (.slice e)) (hi : P.info? e = some i) (hz : i.zero = some z)
    (hsize : i.size = size) (hby : i.bytes = bytes) (hzs : z.cells.size = size) (hsz : 0 < size)
    (v : Value) (n : Nat) (xs : List Value) (hs : a.eval s = v) (hown : w.ownsRow base e size v n xs)
    (ad : Addr) (m c : Nat) (news : List Value) (hx : a.eval x = .slice (some ad) m c) (hl : news.length = m * size) (hnews : ∀ j u, news[j]? = some u → w.cell? (ad.add j) = some u) (h1 : ∀ u ∈ news, u.oneCell' = true)
    (hm : 0 < m) (h63 : n + m ≤ maxLen) (hbytes : (n + m) * bytes ≤ 140737488355328) (hbase : base ≤ w.heap.size) (hS : ∀ g, v.ownBlock = some g → g ∈ S)
    (h : ∀ g cap w', w'.ownsRow base e size (.slice (some ⟨g, 0, none⟩) (n + m) cap) (n + m) (xs ++ news) → w.grownBy w' v.ownBlock → (v.ownBlock = some g ∨ g = w.heap.size) → R (.slice (some ⟨g, 0, none⟩) (n + m) cap) w') :
    relAtG (fun w w' => Only S w w') P ops o a w R := by
  obtain ⟨g, cap, w', hr, h2, h3, h4, h5⟩ := run_append_lies (P := P) w t o.type base e i z size bytes ht hi hz hsize hby hzs hsz v n xs hown ad m c news hl hnews h1 hm h63 hbytes hbase w.heap.size rfl
  have hw : Region.wanted o (yielded ops a.tmps) = true := by simp [Region.wanted, hgd]
  unfold relAtG
  rw [if_pos hw]
  unfold execOp
  simp only [ho, resolve, invoke, builtin, Sem.run_bind, Sem.run_pure, Result.andThen_ok, List.map_toArray, List.map_cons, List.map_nil, hs, hx, hr]
  exact ⟨h g cap w' h2 h3 h4, (Only.refl S w).grown h3 fun k hk => .inl (hS k hk)⟩
end

/-- A row of new memory. -/
def NewRow (W : World) (t : TypeId) (cs : List Value) (m : Nat) (u : Value) (w : World) : Prop := ∃ B, u = .slice (some ⟨B, 0, none⟩) m m ∧ W.heap.size ≤ B ∧ Blk w B t cs
theorem NewRow.stays {S : List Nat} {W : World} (hS : ∀ k ∈ S, k < W.heap.size) (t : TypeId) (cs : List Value) (m : Nat) : StaysS S (NewRow W t cs m) := fun v w w' ho ⟨B, e, hB, hb⟩ =>
  ⟨B, e, hB, hb.only ho fun hk => by have := hS B hk; omega⟩
theorem NewRow.mk {S : List Nat} {W : World} (n : HeldS S W) (t : TypeId) (cs : List Value) (m : Nat) : NewRow W t cs m (.slice (some ⟨n.w.heap.size, 0, none⟩) m m) (n.w.alloc (.cells cs.toArray t)) := ⟨_, rfl, n.only.size, Blk.new _ _ _⟩
theorem NewRow.news {w : World} {B : Nat} {t : TypeId} {cs : List Value} (h : Blk w B t cs) : ∀ j u, cs[j]? = some u → w.cell? ((⟨B, 0, none⟩ : Addr).add j) = some u := fun j u hu => by
  rw [Go.WideShapes.add_plain, Nat.zero_add, h.cell]
  exact hu
end Go.Proofs.Ytaipiflbigpniaa
