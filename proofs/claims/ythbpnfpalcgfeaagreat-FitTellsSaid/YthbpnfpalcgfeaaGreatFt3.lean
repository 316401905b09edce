/-
  Apart: Counts.
-/
import Derived.Test.YthbpnfpalcgfeaaGreatFt1
import Derived.Test.YthbpnfpalcgfeaaGreatMap
namespace Go.Proofs.YthbpnfpalcgfeaaGreat
open Go.RowKit
set_option linter.unusedVariables false
set_option linter.unusedSimpArgs false

theorem ft_law_str : Go.Maps.Keyed Tryz.prog 9 := Go.Maps.string_keyed Tryz.underlying9
theorem Tryz.info3 : (Tryz.prog.info? 3).map (fun i => (i.zero, i.size, i.bytes)) = some (some (.int .i64 0), 1, 8) := by kernel_rfl
theorem ft_zero_int (w : World) : (zeroValue 3).run Tryz.prog w = .ok (.int .i64 0) w := by kernel_rfl
theorem at_rlook {P : Program} {ops : Array Oper} {a : Act} {w : World} {R : Value → World → Prop} {d0 : Option Tmp} {ty : TypeId} {m x : Operand} {c : Bool} {t : TypeId} {p : String} {af : Array Edge} {g : Option (Nat × Bool)}
    (h : relAt P ops { dst := d0, op := .lookup ty m x c, type := t, pos := p, after := af, guard := g } a w R) : relAt P ops { dst := d0, op := .lookup ty m x c, type := t, pos := p, after := af, guard := g } a w R := h
theorem rel_look {P : Program} {ops : Array Oper} {a : Act} {w : World} {R : Value → World → Prop} {o : Oper} (hg : Region.wanted o (yielded ops a.tmps) = true) (m x : Operand) (t k e : TypeId) (hop : o.op = Op.lookup t m x false)
    (K : Go.Maps.Keyed P k) (ht : P.underlying t = some (.map k e)) (hk : P.underlying k = some .string) (z : Value) (hz : (zeroValue e).run P w = .ok z w) {b n : Nat} {f : ByteArray → Option Value}
    (h : MapIs P k w b n f) (hm : a.eval m = .map (some b)) (s : ByteArray) (hx : a.eval x = .string s) (hs : s.size ≤ maxLen) (hR : R ((f s).getD z) w) : relAt P ops o a w R := by
  unfold relAt
  rw [if_pos hg]
  have e9 : (execOp a.eval o).run P w = .ok (.value ((f s).getD z)) w := by
    simp [execOp, hop, hm, hx, h.look K ht hk hz hs, Result.andThen]
  rw [e9]
  exact ⟨hR, Below.refl _ _⟩
def onF (bs : List Bd) (p : Pd) : ByteArray → Option Value := fun x => if onCnt bs p x = 0 then none else some (.int .i64 (onCnt bs p x : Nat))
theorem on_get (bs : List Bd) (p : Pd) (x : ByteArray) : (onF bs p x).getD (.int .i64 0) = .int .i64 (onCnt bs p x : Nat) := by
  unfold onF
  split
  · rename_i h; rw [h]; rfl
  · rfl
theorem onCnt_next {bs : List Bd} {k : Nat} {b : Bd} (h : bs[k]? = some b) (p : Pd) (x : ByteArray) : onCnt (bs.take (k + 1)) p x = onCnt (bs.take k) p x + if onQ p x b = true then 1 else 0 := by
  unfold onCnt
  rw [List.take_add_one, h, List.filter_append, List.length_append]
  congr 1
  show (List.filter (onQ p x) [b]).length = _
  rw [List.filter_cons]
  split <;> rfl
theorem on_yes {bs : List Bd} {k : Nat} {b : Bd} {p : Pd} (h : bs[k]? = some b) (hp : onP p b = true) (s : ByteArray) : updF (onF (bs.take k) p) b.on (some (.int .i64 ((onCnt (bs.take k) p b.on : Int) + 1))) s = onF (bs.take (k + 1)) p s := by
  by_cases hs : s = b.on
  · subst hs
    rw [updF_same]
    unfold onF
    have e : onCnt (bs.take (k + 1)) p b.on = onCnt (bs.take k) p b.on + 1 := by
      rw [onCnt_next h, if_pos]
      unfold onQ
      rw [hp, decide_eq_true rfl]
      rfl
    rw [e, if_neg (by omega)]
    rfl
  · rw [updF_other hs]
    unfold onF
    have e : onCnt (bs.take (k + 1)) p s = onCnt (bs.take k) p s := by
      rw [onCnt_next h, if_neg]
      · rfl
      · unfold onQ
        rw [decide_eq_false (Ne.symm hs)]
        simp
    rw [e]
theorem on_no {bs : List Bd} {k : Nat} {b : Bd} {p : Pd} (h : bs[k]? = some b) (hp : onP p b = false) (s : ByteArray) : onF (bs.take k) p s = onF (bs.take (k + 1)) p s := by
  have e : onCnt (bs.take (k + 1)) p s = onCnt (bs.take k) p s := by
    rw [onCnt_next h, if_neg]
    · rfl
    · unfold onQ
      rw [hp]
      simp
  unfold onF
  rw [e]
def zIs (x : ByteArray) (m : Mac) : Bool := Lb.getB m.labs zoneT && decide (Lb.getV m.labs zoneT = x)
def zSum (ms : List Mac) (f : ByteArray → Nat) (x : ByteArray) : Nat := ms.foldl (zAdd f x) 0
def zfF (ms : List Mac) (f : ByteArray → Nat) : ByteArray → Option Value := fun x => if ms.any (zIs x) = true then some (.int .i64 (zSum ms f x : Nat)) else none
theorem zSum_none (f : ByteArray → Nat) (x : ByteArray) : ∀ (ms : List Mac) (n : Nat), ms.any (zIs x) = false → ms.foldl (zAdd f x) n = n
  | [], n, _ => rfl
  | m :: ms, n, h => by
    rw [List.any_cons, Bool.or_eq_false_iff] at h
    rw [List.foldl_cons]
    have e : zAdd f x n m = n := by
      unfold zAdd
      rw [if_neg]
      rintro ⟨h1, h2⟩
      have h3 := h.1
      unfold zIs at h3
      rw [h1, decide_eq_true h2] at h3
      cases h3
    rw [e]
    exact zSum_none f x ms n h.2
theorem zf_get (ms : List Mac) (f : ByteArray → Nat) (x : ByteArray) : (zfF ms f x).getD (.int .i64 0) = .int .i64 (zSum ms f x : Nat) := by
  unfold zfF
  split
  · rfl
  · rename_i h
    have e : zSum ms f x = 0 := zSum_none f x ms 0 (by simpa using h)
    rw [e]
    rfl
theorem zSum_next {ms : List Mac} {k : Nat} {m : Mac} (h : ms[k]? = some m) (f : ByteArray → Nat) (x : ByteArray) : zSum (ms.take (k + 1)) f x = zAdd f x (zSum (ms.take k) f x) m := by
  unfold zSum
  rw [List.take_add_one, h, List.foldl_append]
  rfl
theorem zany_next {ms : List Mac} {k : Nat} {m : Mac} (h : ms[k]? = some m) (x : ByteArray) : (ms.take (k + 1)).any (zIs x) = ((ms.take k).any (zIs x) || zIs x m) := by
  rw [List.take_add_one, h, List.any_append]
  simp
theorem zf_yes {ms : List Mac} {k : Nat} {m : Mac} (h : ms[k]? = some m) (f : ByteArray → Nat) (hg : Lb.getB m.labs zoneT = true) (s : ByteArray) :
    updF (zfF (ms.take k) f) (Lb.getV m.labs zoneT) (some (.int .i64 ((zSum (ms.take k) f (Lb.getV m.labs zoneT) : Int) + (f m.nm : Int)))) s = zfF (ms.take (k + 1)) f s := by
  by_cases hs : s = Lb.getV m.labs zoneT
  · subst hs
    rw [updF_same]
    unfold zfF
    rw [zany_next h, zSum_next h]
    have e : zIs (Lb.getV m.labs zoneT) m = true := by unfold zIs; rw [hg, decide_eq_true rfl]; rfl
    rw [e, Bool.or_true, if_pos rfl]
    unfold zAdd
    rw [if_pos ⟨hg, rfl⟩]
    rfl
  · rw [updF_other hs]
    unfold zfF
    rw [zany_next h, zSum_next h]
    have e : zIs s m = false := by unfold zIs; rw [decide_eq_false (Ne.symm hs), Bool.and_false]
    rw [e, Bool.or_false]
    rw [show zAdd f s (zSum (ms.take k) f s) m = zSum (ms.take k) f s from if_neg (fun t => hs t.2.symm)]
theorem zf_no {ms : List Mac} {k : Nat} {m : Mac} (h : ms[k]? = some m) (f : ByteArray → Nat) (hg : Lb.getB m.labs zoneT = false) (s : ByteArray) : zfF (ms.take k) f s = zfF (ms.take (k + 1)) f s := by
  unfold zfF
  rw [zany_next h, zSum_next h]
  have e : zIs s m = false := by unfold zIs; rw [hg]; rfl
  rw [e, Bool.or_false]
  rw [show zAdd f s (zSum (ms.take k) f s) m = zSum (ms.take k) f s from if_neg (fun t => by rw [hg] at t; cases t.1)]
theorem zSum_le (ms : List Mac) (f : ByteArray → Nat) (B : Nat) (hf : ∀ x, f x ≤ B) (z : ByteArray) : zSum ms f z ≤ ms.length * B := by
  have : ∀ (l : List Mac) (n : Nat), l.foldl (zAdd f z) n ≤ n + l.length * B := by
    intro l
    induction l with
    | nil => intro n; simp
    | cons m l ih =>
      intro n
      have h1 := ih (zAdd f z n m)
      have h2 : zAdd f z n m ≤ n + B := by
        unfold zAdd
        have := hf m.nm
        split <;> omega
      rw [List.foldl_cons, List.length_cons, Nat.succ_mul]
      omega
  have h := this ms 0
  unfold zSum
  omega
theorem Box.only {X : Nat} {L : List Value} {V V' : World} {S : List Nat} (h : Box X L V) (ho : Only S V V') (hs : X ∉ S) : Box X L V' :=
  ⟨Nat.lt_of_lt_of_le h.lt ho.size, fun i => by rw [World.cell?_of_block (ho.block X h.lt hs)]; exact h.cell i⟩
theorem Only.grown1 {m : Nat} {a w w' : World} (h : Only [m] a w) (hg : w.grownBy w' (some m)) : Only [m] a w' := h.grown hg fun k hk => .inl (by obtain rfl := Option.some.inj hk; simp)
theorem Only.step1 {m : Nat} {a w w' : World} (h : Only [m] a w) (hb : Below w.heap.size w w') : Only [m] a w' := h.step (hb.mono h.size)
theorem Only.below1 {m B : Nat} {w0 w w' : World} (h : Only [m] w w') (hb : Below B w0 w) (hB : B ≤ w.heap.size) (hm : B ≤ m) : Below B w0 w' := h.below hb hB fun k hk => by
  obtain rfl : k = m := by simpa using hk
  exact hm
abbrev IntL := RowsAt pcs 1
def GivesC (w : World) (Z : List ByteArray) (N : List Int) (e : Ending) (w' : World) : Prop := (∃ az kz an kn, e = .returned (.tuple #[.slice az Z.length kz, .slice an N.length kn]) ∧ TxtL w' az Z ∧ IntL w' an N) ∧ Below w.heap.size w w'
theorem pcs_one (n : Int) : ∀ u ∈ pcs n, u.oneCell' = true := by
  intro u hu
  simp [pcs] at hu
  rcases hu with rfl
  rfl
end Go.Proofs.YthbpnfpalcgfeaaGreat
