/-
  Slices that a call itself makes, row by row, whatever the elements are: 'enc' gives an element's K cells.
-/
import Derived.Test.YtaipiflbigpniaaBase
import Derived.OwnWalk
import Derived.Laws.AppendOwnNone
namespace Go.Proofs.Ytaipiflbigpniaa
open Go.RowKit
set_option linter.unusedVariables false
set_option linter.unusedSimpArgs false

theorem rows_length {α : Type} (enc : α → List Value) (K : Nat) (hk : ∀ x, (enc x).length = K) (l : List α) : (l.flatMap enc).length = l.length * K := by
  induction l with
  | nil => simp
  | cons x l ih => simp [List.flatMap_cons, ih, hk, Nat.add_mul, Nat.add_comm]

theorem rows_get {α : Type} (enc : α → List Value) (K : Nat) (hk : ∀ x, (enc x).length = K) (l : List α) (i r : Nat) (x : α) (hx : l[i]? = some x) (hr : r < K) : (l.flatMap enc)[i * K + r]? = (enc x)[r]? := by
  induction l generalizing i with
  | nil => simp at hx
  | cons y l ih =>
    rw [List.flatMap_cons]
    cases i with
    | zero =>
      obtain rfl : y = x := by simpa using hx
      rw [Nat.zero_mul, Nat.zero_add, List.getElem?_append_left (by rw [hk]; exact hr)]
    | succ i =>
      rw [List.getElem?_append_right (by rw [hk, Nat.add_mul]; omega), hk, show (i + 1) * K + r - K = i * K + r by rw [Nat.add_mul]; omega]
      exact ih i (by simpa using hx)

theorem news_at (w : World) (cs : List Value) (t : TypeId) : ∀ j u, cs[j]? = some u → (w.alloc (.cells cs.toArray t)).cell? ((⟨w.heap.size, 0, none⟩ : Addr).add j) = some u := by
  intro j u h
  rw [Go.WideShapes.add_plain, Nat.zero_add, World.cell?_alloc_at _ _ _ _ rfl]
  simpa using h

theorem news_at2 (w : World) (o : Obj) (cs : List Value) (t : TypeId) : ∀ j u, cs[j]? = some u → ((w.alloc o).alloc (.cells cs.toArray t)).cell? ((⟨w.heap.size + 1, 0, none⟩ : Addr).add j) = some u := by
  have h : (w.alloc o).heap.size = w.heap.size + 1 := by simp
  rw [← h]
  exact news_at _ _ _

/-- What a row of the call's own holds. -/
theorem own_rows {α : Type} {enc : α → List Value} {K : Nat} (hk : ∀ x, (enc x).length = K) {w : World} {base : Nat} {e : TypeId} {v : Value} {l : List α} (h : w.ownsRow base e K v l.length (l.flatMap enc)) (hK : 0 < K) :
    ∃ sp cap, v = .slice sp l.length cap ∧ (0 < l.length → ∃ b, sp = some ⟨b, 0, none⟩ ∧ base ≤ b ∧ b < w.heap.size ∧ ∀ i x, l[i]? = some x → ∀ r, r < K → w.cell? ⟨b, 0 + i * K + r, none⟩ = (enc x)[r]?) := by
  have h0 := h
  obtain ⟨hl, hv | ⟨g, cap, cur, rfl, hg, hh, hk', hcm, hcs, ht⟩⟩ := h
  · obtain ⟨rfl, h00⟩ := hv
    rw [h00]
    exact ⟨none, 0, rfl, fun h => absurd h (by omega)⟩
  · refine ⟨_, cap, rfl, fun hpos => ⟨g, rfl, hg, (h0.lt g rfl).2, fun i x hx r hr => ?_⟩⟩
    have hi : i < l.length := (List.getElem?_eq_some_iff.1 hx).1
    have hlt : i * K + r < l.length * K := by
      have : (i + 1) * K ≤ l.length * K := Nat.mul_le_mul_right K hi
      rw [Nat.add_mul] at this
      omega
    rw [Nat.zero_add, World.ownsRow.cellAt h0 (i * K + r) (by omega), rows_get enc K hk l i r x hx hr]

theorem own_below {w w1 W : World} {B : Nat} {v : Value} {n k : Nat} {e : TypeId} {xs : List Value} (h : w.ownsRow B e k v n xs) (hb : Below B W w) (hs : B ≤ w.heap.size) (hg : w.grownBy w1 v.ownBlock) : Below B W w1 :=
  hb.grown hg hs fun q hq => (h.lt q hq).1

theorem le_alloc {w : World} {B : Nat} (h : B ≤ w.heap.size) (o : Obj) : B ≤ (w.alloc o).heap.size := by simp; omega

/-- What a call leaves as it was is owned still. -/
theorem own_kept {w w1 : World} {B : Nat} {v : Value} {n k : Nat} {e : TypeId} {xs : List Value} (h : w.ownsRow B e k v n xs) (hb : Below w.heap.size w w1) : w1.ownsRow B e k v n xs := by
  obtain ⟨hl, hv | ⟨g, cap, cur, rfl, hg, hh, r⟩⟩ := h
  · exact ⟨hl, .inl hv⟩
  · refine ⟨hl, .inr ⟨g, cap, cur, rfl, hg, ?_, r⟩⟩
    rw [hb.block g]
    · exact hh
    · exact (Array.getElem?_eq_some_iff.1 hh).1
/-- 'append(own, src...)' from a slice that is nil or not. -/
theorem wpList_append_src {P : Program} {w : World} {ops : Array Oper} {rest : List Oper} {o : Oper} {a : Act} {Q : Exit → Act → World → Prop} (hgd : o.guard = none) (s x : Operand) (t : TypeId)
    (ho : o.op = .call { callee := .builtin .append, args := #[s, x], argTypes := #[t, t] })
    (base : Nat) (e : TypeId) (i : TypeInfo) (z : Value) (size bytes : Nat) (ht : P.underlying t = some (.slice e)) (hi : P.info? e = some i) (hz : i.zero = some z)
    (hsize : i.size = size) (hby : i.bytes = bytes) (hzs : z.cells.size = size) (hsz : 0 < size)
    (v : Value) (n : Nat) (xs : List Value) (hs : a.eval s = v) (hown : w.ownsRow base e size v n xs)
    (ad : Option Addr) (m c : Nat) (news : List Value) (hx : a.eval x = .slice ad m c) (hl : news.length = m * size) (hnews : ∀ q, ad = some q → ∀ j u, news[j]? = some u → w.cell? (q.add j) = some u) (h0 : ad = none → m = 0 ∧ c = 0) (h1 : ∀ u ∈ news, u.oneCell' = true)
    (h63 : n + m ≤ maxLen) (hbytes : (n + m) * bytes ≤ 140737488355328) (hbase : base ≤ w.heap.size)
    (h : ∀ v' w', w'.ownsRow base e size v' (n + m) (xs ++ news) → w.grownBy w' v.ownBlock → wpList P ops Q rest (a.put o.dst v') w') : wpList P ops Q (o :: rest) a w := by
  cases ad with
  | none =>
    obtain ⟨rfl, rfl⟩ := h0 rfl
    obtain rfl : news = [] := List.eq_nil_of_length_eq_zero (by omega)
    refine wpList_append_own_none hgd s x t ho base e i size ht hi v n xs hs hown hx (h v w ?_ (World.grownBy.refl w _))
    simpa using hown
  | some q => exact wpList_append_own w hgd s x t ho base e i z size bytes ht hi hz hsize hby hzs hsz v n xs hs hown q m c news hx hl (hnews q rfl) h1 h63 hbytes hbase fun v' w' h2 h3 _ => h v' w' h2 h3

/-- The first n of D, cell by cell. -/
def rowF {α : Type} (enc : α → List Value) (D : Nat → α) (n : Nat) : List Value := ((List.range n).map D).flatMap enc
theorem rowF_len {α : Type} {enc : α → List Value} {K : Nat} (hk : ∀ x, (enc x).length = K) (D : Nat → α) (n : Nat) : (rowF enc D n).length = n * K := by
  unfold rowF
  rw [rows_length enc K hk]
  simp
theorem rowF_succ {α : Type} (enc : α → List Value) (D : Nat → α) (n : Nat) : rowF enc D (n + 1) = rowF enc D n ++ enc (D n) := by
  unfold rowF
  rw [List.range_succ, List.map_append, List.flatMap_append]
  simp
theorem rowF_one {α : Type} {enc : α → List Value} (h1 : ∀ x, ∀ u ∈ enc x, u.oneCell' = true) (D : Nat → α) (n : Nat) : ∀ u ∈ rowF enc D n, u.oneCell' = true := by
  intro u hu
  unfold rowF at hu
  rw [List.mem_flatMap] at hu
  obtain ⟨x, _, hx⟩ := hu
  exact h1 x u hx
/-- Rows that lie in memory are what an append reads. -/
theorem rowF_news {α : Type} {enc : α → List Value} {K : Nat} (hk : ∀ x, (enc x).length = K) {w : World} {b off n : Nat} {D : Nat → α} (h : ∀ i, i < n → ∀ r, r < K → w.cell? ⟨b, off + i * K + r, none⟩ = (enc (D i))[r]?) :
    ∀ j u, (rowF enc D n)[j]? = some u → w.cell? ((⟨b, off, none⟩ : Addr).add j) = some u := by
  intro j u hu
  have hj : j < n * K := by rw [← rowF_len hk D n]; exact (List.getElem?_eq_some_iff.1 hu).1
  have hK : 0 < K := Nat.pos_of_ne_zero fun e => by subst e; omega
  have hi : j / K < n := Nat.div_lt_of_lt_mul (by rw [Nat.mul_comm]; exact hj)
  have hr : j % K < K := Nat.mod_lt _ hK
  have e : j = j / K * K + j % K := by rw [Nat.mul_comm]; exact (Nat.div_add_mod j K).symm
  rw [Go.WideShapes.add_plain, e, ← Nat.add_assoc, h _ hi _ hr]
  have hx : ((List.range n).map D)[j / K]? = some (D (j / K)) := by simp [hi]
  rw [e] at hu
  unfold rowF at hu
  rw [rows_get enc K hk _ _ _ _ hx hr] at hu
  exact hu
theorem rowF_own {α : Type} {enc : α → List Value} {K : Nat} (hk : ∀ x, (enc x).length = K) {w : World} {base : Nat} {e : TypeId} {v : Value} {D : Nat → α} {n : Nat} (h : w.ownsRow base e K v n (rowF enc D n)) (hK : 0 < K) :
    ∃ sp cap, v = .slice sp n cap ∧ (0 < n → ∃ b, sp = some ⟨b, 0, none⟩ ∧ base ≤ b ∧ b < w.heap.size ∧ ∀ i, i < n → ∀ r, r < K → w.cell? ⟨b, 0 + i * K + r, none⟩ = (enc (D i))[r]?) := by
  have hl : ((List.range n).map D).length = n := by simp
  obtain ⟨sp, cap, e, hc⟩ := own_rows (l := (List.range n).map D) hk (by rw [hl]; exact h) hK
  rw [hl] at e hc
  refine ⟨sp, cap, e, fun h0 => ?_⟩
  obtain ⟨b, h1, h2, h3, h4⟩ := hc h0
  exact ⟨b, h1, h2, h3, fun i hi r hr => h4 i _ (by simp [hi]) r hr⟩
end Go.Proofs.Ytaipiflbigpniaa
