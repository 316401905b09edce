/-
  A slice's elements as a list, whatever the elements are: 'enc' gives an element's K cells.
-/
import Derived.Test.YtaipiflbigpniaaOwn
import Derived.Test.YtaipiflbigpniaaRel
import Derived.Test.YtaipiflbigpniaaOpen
namespace Go.Proofs.Ytaipiflbigpniaa
open Go.ChangeShapes Go.WideShapes Go.ChangeAt Go.RowKit
set_option linter.unusedVariables false
set_option linter.unusedSimpArgs false

section
variable {α : Type} {enc : α → List Value} {K : Nat}

/-- The elements that a slice holds. -/
def RowsAt (enc : α → List Value) (K : Nat) (w : World) (a : Option Addr) (l : List α) : Prop :=
  0 < l.length → ∃ b off, a = some ⟨b, off, none⟩ ∧ b < w.heap.size ∧ ∀ i x, l[i]? = some x → ∀ r, r < K → w.cell? ⟨b, off + i * K + r, none⟩ = (enc x)[r]?

theorem RowsAt.mono {w w' : World} {a : Option Addr} {l : List α} (h : RowsAt enc K w a l) (hb : Below w.heap.size w w') : RowsAt enc K w' a l := fun h0 => by
  obtain ⟨b, off, e, hlt, hc⟩ := h h0
  refine ⟨b, off, e, Nat.lt_of_lt_of_le hlt hb.size, fun i x hx r hr => ?_⟩
  rw [hb.cell (p := ⟨b, _, none⟩) hlt]
  exact hc i x hx r hr
theorem RowsAt.nil {w : World} {a : Option Addr} : RowsAt enc K w a [] := fun h => absurd h (Nat.lt_irrefl 0)

/-- A slice that is nil has nothing. -/
def NilOk (a : Option Addr) (n k : Nat) : Prop := a = none → n = 0 ∧ k = 0

/-- A value that is a slice of these. -/
def IsL (enc : α → List Value) (K : Nat) (l : List α) (v : Value) (w : World) : Prop := ∃ a k, v = .slice a l.length k ∧ NilOk a l.length k ∧ RowsAt enc K w a l
theorem IsL.stays (l : List α) : Stays (IsL enc K l) := fun v w w' hb h => by
  obtain ⟨a, k, e, h1, h⟩ := h
  exact ⟨a, k, e, h1, h.mono hb⟩
theorem IsL.mono {l : List α} {v : Value} {w w' : World} (h : IsL enc K l v w) (hb : Below w.heap.size w w') : IsL enc K l v w' := IsL.stays l v w w' hb h
theorem IsL.nil {w : World} : IsL enc K [] (.slice none 0 0) w := ⟨none, 0, rfl, fun _ => ⟨rfl, rfl⟩, RowsAt.nil⟩
theorem IsL.of_own (hk : ∀ x, (enc x).length = K) (hK : 0 < K) {l : List α} {w : World} {base : Nat} {e : TypeId} {v : Value} (h : w.ownsRow base e K v l.length (l.flatMap enc)) : IsL enc K l v w := by
  have h0 := h
  obtain ⟨sp, cap, rfl, hc⟩ := own_rows hk h hK
  refine ⟨sp, cap, rfl, fun e => ?_, fun hp => ?_⟩
  · subst e
    obtain ⟨_, hv | ⟨g, cap', cur, hv, _⟩⟩ := h0
    · obtain ⟨hv, hl⟩ := hv
      simp only [Value.slice.injEq, true_and] at hv
      exact ⟨hl, hv.2⟩
    · simp at hv
  · obtain ⟨b, h1, _, h2, h3⟩ := hc hp
    exact ⟨b, 0, h1, h2, h3⟩
theorem flat_ones (h1 : ∀ x, ∀ u ∈ enc x, u.oneCell' = true) (l : List α) : ∀ u ∈ l.flatMap enc, u.oneCell' = true := by
  intro u hu
  rw [List.mem_flatMap] at hu
  obtain ⟨x, _, hx⟩ := hu
  exact h1 x u hx
/-- What lies in memory is what an append reads. -/
theorem RowsAt.news (hk : ∀ x, (enc x).length = K) {w : World} {a : Option Addr} {l : List α} (h : RowsAt enc K w a l) : ∀ q, a = some q → ∀ j u, (l.flatMap enc)[j]? = some u → w.cell? (q.add j) = some u := by
  intro q hq j u hu
  have hj : j < l.length * K := by rw [← rows_length enc K hk l]; exact (List.getElem?_eq_some_iff.1 hu).1
  have hK : 0 < K := Nat.pos_of_ne_zero fun e => by subst e; omega
  have hi : j / K < l.length := Nat.div_lt_of_lt_mul (by rw [Nat.mul_comm]; exact hj)
  obtain ⟨b, off, rfl, _, hc⟩ := h (Nat.lt_of_le_of_lt (Nat.zero_le _) hi)
  cases hq
  have hr : j % K < K := Nat.mod_lt _ hK
  have e : j = j / K * K + j % K := by rw [Nat.mul_comm]; exact (Nat.div_add_mod j K).symm
  have hx : l[j / K]? = some l[j / K] := List.getElem?_eq_getElem hi
  rw [Go.WideShapes.add_plain, e, ← Nat.add_assoc, hc _ _ hx _ hr]
  rw [e, rows_get enc K hk _ _ _ _ hx hr] at hu
  exact hu
/-- A new block of them. -/
theorem RowsAt.new (hk : ∀ x, (enc x).length = K) (w : World) (l : List α) (t : TypeId) : RowsAt enc K (w.alloc (.cells (l.flatMap enc).toArray t)) (some ⟨w.heap.size, 0, none⟩) l := fun _ => by
  refine ⟨_, _, rfl, by simp, fun i x hx r hr => ?_⟩
  rw [Nat.zero_add, World.cell?_alloc_at _ _ _ _ rfl]
  have := rows_get enc K hk l i r x hx hr
  simpa using this
theorem IsL.new (hk : ∀ x, (enc x).length = K) (w : World) (l : List α) (t : TypeId) (n : Nat) (hn : l.length = n) : IsL enc K l (.slice (some ⟨w.heap.size, 0, none⟩) n n) (w.alloc (.cells (l.flatMap enc).toArray t)) :=
  ⟨_, n, by rw [hn], (fun h => by cases h), RowsAt.new hk w l t⟩

theorem take_at {l : List α} {k : Nat} {x : α} (h : l[k]? = some x) : l.take (k + 1) = l.take k ++ [x] := by
  rw [List.take_add_one, h]
  rfl
theorem lt_at {l : List α} {k : Nat} {x : α} (h : l[k]? = some x) : k < l.length := (List.getElem?_eq_some_iff.1 h).1
theorem mem_at {l : List α} {k : Nat} (h : k < l.length) : ∃ x, l[k]? = some x := ⟨_, List.getElem?_eq_getElem h⟩

/-- A slice that came in, as a list. -/
theorem open_list {H : Type} {ec : TypeId × Value → H} {P : Program} {W : World} {r : Reach} {base : Nat} {t e : TypeId} {v : Value} {d : DataW H} {p : List MemPlace}
    (ht : P.underlying t = some (.slice e)) (hE : P.cellsOf e = K) (hE0 : 0 < K)
    (hdec : ∀ (cs : List Value) (fuel : Nat) (y : DataW H × List MemPlace), cs.length = K → DataW.trod ec P W 0 (fun _ => true) true fuel e cs = some y → ∃ x, cs = enc x)
    (hv : Value.okWide P W r base t v) (h : DataW.Trod ec P W 0 (fun _ => true) true t v d p) :
    ∃ a l k, v = .slice a l.length k ∧ NilOk a l.length k ∧ RowsAt enc K W a l ∧ l.length ≤ maxLen ∧ l.length ≤ k := by
  rcases open_rows ht hE hE0 hv h with rfl | ⟨a, cap, rfl⟩ | ⟨b, off, n, cap, rfl, hn, hnc, hcm, hb, hr⟩
  · exact ⟨none, [], 0, rfl, fun _ => ⟨rfl, rfl⟩, RowsAt.nil, Nat.zero_le _, Nat.zero_le _⟩
  · exact ⟨some a, [], cap, rfl, (fun h => by cases h), RowsAt.nil, Nat.zero_le _, Nat.zero_le _⟩
  · have hD : ∀ m, m ≤ n → ∃ l : List α, l.length = m ∧ ∀ i x, l[i]? = some x → ∀ j, j < K → W.cell? ⟨b, off + i * K + j, none⟩ = (enc x)[j]? := by
      intro m
      induction m with
      | zero => exact fun _ => ⟨[], rfl, fun i x hx => by simp at hx⟩
      | succ m ih =>
        intro hm
        obtain ⟨l, hl, hc⟩ := ih (by omega)
        obtain ⟨cs, hcl, hcs, fuel, y, hy⟩ := hr m (by omega)
        obtain ⟨x, rfl⟩ := hdec cs fuel y hcl hy
        refine ⟨l ++ [x], by simp [hl], fun i z hz j hj => ?_⟩
        by_cases hi : i < l.length
        · rw [List.getElem?_append_left hi] at hz
          exact hc i z hz j hj
        · rw [List.getElem?_append_right (by omega)] at hz
          have h0 : i - l.length = 0 := by
            have := (List.getElem?_eq_some_iff.1 hz).1
            simp at this
            omega
          rw [h0] at hz
          obtain rfl : x = z := by simpa using hz
          obtain rfl : i = m := by omega
          exact hcs j hj
    obtain ⟨l, hl, hc⟩ := hD n (Nat.le_refl n)
    subst hl
    exact ⟨some ⟨b, off, none⟩, l, cap, rfl, (fun h => by cases h), fun _ => ⟨b, off, rfl, hb, hc⟩, Nat.le_trans hnc hcm, hnc⟩
end

/-- What a call gives up to a relation. -/
def Gives (w : World) (R : Value → World → Prop) (e : Ending) (w' : World) : Prop := (∃ v, e = .returned v ∧ R v w') ∧ Below w.heap.size w w'
theorem Gives.mk {w w' : World} {R : Value → World → Prop} {v : Value} (h : R v w') (hb : Below w.heap.size w w') : Gives w R (.returned v) w' := ⟨⟨v, rfl, h⟩, hb⟩
theorem Gives.own {α : Type} {enc : α → List Value} {K : Nat} (hk : ∀ x, (enc x).length = K) (hK : 0 < K) {l m : List α} {w w' : World} {base : Nat} {e : TypeId} {v : Value} (hl : l = m) (h : w'.ownsRow base e K v m.length (m.flatMap enc)) (hb : Below w.heap.size w w') : Gives w (IsL enc K l) (.returned v) w' :=
  ⟨⟨v, rfl, hl ▸ IsL.of_own hk hK h⟩, hb⟩
/-- A value that is a slice of these that the call owns: its block is not below the base. -/
def OwnL {α : Type} (enc : α → List Value) (K base : Nat) (t : TypeId) (l : List α) (v : Value) (w : World) : Prop := w.ownsRow base t K v l.length (l.flatMap enc)
theorem OwnL.stays {α : Type} (enc : α → List Value) (K base : Nat) (t : TypeId) (l : List α) : Stays (OwnL enc K base t l) := fun v w w' hb h => own_kept h hb
theorem OwnL.mono {α : Type} {enc : α → List Value} {K base base' : Nat} {t : TypeId} {l : List α} {v : Value} {w : World} (h : OwnL enc K base t l v w) (hb : base' ≤ base) : OwnL enc K base' t l v w := by
  obtain ⟨hl, hv | ⟨g, cap, cur, rfl, hg, r⟩⟩ := h
  · exact ⟨hl, .inl hv⟩
  · exact ⟨hl, .inr ⟨g, cap, cur, rfl, Nat.le_trans hb hg, r⟩⟩
theorem OwnL.isL {α : Type} {enc : α → List Value} {K base : Nat} {t : TypeId} (hk : ∀ x, (enc x).length = K) (hK : 0 < K) {l : List α} {v : Value} {w : World} (h : OwnL enc K base t l v w) : IsL enc K l v w := IsL.of_own hk hK h
theorem Gives.ownL {α : Type} {enc : α → List Value} {K : Nat} {l m : List α} {w w' : World} {base : Nat} {e : TypeId} {v : Value} (hl : l = m) (h : w'.ownsRow base e K v m.length (m.flatMap enc)) (hb : Below w.heap.size w w') : Gives w (OwnL enc K base e l) (.returned v) w' :=
  ⟨⟨v, rfl, hl ▸ h⟩, hb⟩
theorem Gives.weak {w w' : World} {R S : Value → World → Prop} {e : Ending} (h : Gives w R e w') (hRS : ∀ v w, R v w → S v w) : Gives w S e w' := by
  obtain ⟨⟨v, he, hv⟩, hb⟩ := h
  exact ⟨⟨v, he, hRS _ _ hv⟩, hb⟩
end Go.Proofs.Ytaipiflbigpniaa
