/-
  The program's forms: add, flag, number, String.
-/
import Derived.Test.YtccplljbljpjpaaDoorME
import Derived.Test.YtccplljbljpjpaaDoorKJoin
import Derived.Test.YtccplljbljpjpaaDoorKIto
import Derived.Test.YtccplljbljpjpaaDoorSpQ
import Derived.Test.YtccplljbljpjpaaDoorNE
import Derived.Test.YtccplljbljpjpaaDoorLate
import Derived.Deep.Cut
namespace Go.Proofs.YtccplljbljpjpaaDoor
open Go.RowKit
set_option linter.unusedVariables false
set_option linter.unusedSimpArgs false

theorem own_same {w w' : World} {B : Nat} {v : Value} {n k : Nat} {e : TypeId} {xs : List Value} (h : w.ownsRow B e k v n xs) (hb : ∀ g, v.ownBlock = some g → w'.heap[g]? = w.heap[g]?) : w'.ownsRow B e k v n xs := by
  refine ⟨h.1, ?_⟩
  rcases h.2 with h | ⟨g, cap, cur, rfl, h1, h2, h3⟩
  · exact .inl h
  · exact .inr ⟨g, cap, cur, rfl, h1, (hb g rfl).trans h2, h3⟩
theorem own_lt {w : World} {B : Nat} {v : Value} {n k : Nat} {e : TypeId} {xs : List Value} (h : w.ownsRow B e k v n xs) {g : Nat} (hg : v.ownBlock = some g) : B ≤ g ∧ g < w.heap.size := by
  rcases h.2 with ⟨rfl, _⟩ | ⟨g', cap, cur, rfl, h1, h2, h3⟩
  · cases hg
  · obtain rfl : g' = g := Option.some.inj hg
    exact ⟨h1, (Array.getElem?_eq_some_iff.1 h2).1⟩
/-- The type of what lies in a block. -/
def TyAt (w : World) (g : Nat) (t : TypeId) : Prop := ∃ xs, w.heap[g]? = some (.cells xs t)
theorem TyAt.ne {w : World} {g q : Nat} {t t' : TypeId} (h : TyAt w g t) (h' : TyAt w q t') (ht : t ≠ t') : g ≠ q := fun e => by
  subst e
  obtain ⟨x, h⟩ := h
  obtain ⟨y, h'⟩ := h'
  rw [h] at h'
  injection h' with h'
  injection h' with _ h2
  exact ht h2
theorem own_ty {w : World} {B : Nat} {v : Value} {n k : Nat} {e : TypeId} {xs : List Value} (h : w.ownsRow B e k v n xs) {g : Nat} (hg : v.ownBlock = some g) : TyAt w g e := by
  rcases h.2 with ⟨rfl, _⟩ | ⟨g', cap, cur, rfl, h1, h2, h3⟩
  · cases hg
  · obtain rfl : g' = g := Option.some.inj hg
    exact ⟨_, h2⟩
theorem blk_ty {w : World} {b : Nat} {t : TypeId} {cs : List Value} (h : Blk w b t cs) : TyAt w b t := ⟨_, h⟩
theorem own_sl {w : World} {B n k : Nat} {v : Value} {e : TypeId} {xs : List Value} (h : w.ownsRow B e k v n xs) : ∃ a c, v = .slice a n c := by
  rcases h.2 with ⟨e, h0⟩ | ⟨g, cap, cur, e, _⟩
  · exact ⟨none, 0, by rw [e, h0]⟩
  · exact ⟨_, _, e⟩
theorem own_cap {w : World} {B : Nat} {a : Option Addr} {m c n k : Nat} {e : TypeId} {xs : List Value} (h : w.ownsRow B e k (.slice a m c) n xs) : m = n ∧ n ≤ c := by
  rcases h.2 with ⟨h1, h2⟩ | ⟨g, cap, cur, h1, -, -, h3, -⟩
  · injection h1 with _ h4 h5
    exact ⟨by omega, by omega⟩
  · injection h1 with _ h4 h5
    exact ⟨h4, by omega⟩
theorem one_at {s : ByteArray} {j : Nat} {u : Value} (h : (scs s)[j]? = some u) : j = 0 ∧ u = .string s := by
  cases j with
  | zero =>
    have h9 : Value.string s = u := by simpa [scs] using h
    exact ⟨rfl, h9.symm⟩
  | succ j => simp [scs] at h
/-- A form: a block that holds the slice of its parts. -/
structure FmAt (base q : Nat) (L : List ByteArray) (w : World) : Prop where
  hb : base ≤ q
  ex : ∃ v, Blk w q 87 [v] ∧ w.ownsRow base 9 1 v L.length (L.flatMap scs)
theorem FmAt.lt {base q : Nat} {L : List ByteArray} {w : World} (h : FmAt base q L w) : q < w.heap.size := by
  obtain ⟨v, hv, -⟩ := h.ex
  exact hv.lt
theorem FmAt.below {base q : Nat} {L : List ByteArray} {w w' : World} (h : FmAt base q L w) (hb : Below w.heap.size w w') : FmAt base q L w' := by
  obtain ⟨v, h1, h2⟩ := h.ex
  exact ⟨h.hb, v, h1.below hb, own_kept h2 hb⟩
set_option maxRecDepth 100000 in
set_option maxHeartbeats 4000000 in
theorem satom_any (s : ByteArray) (w : World) :
    Calls Tryd.prog 55 #[.string s] w fun e w' => e = .returned (.string (atB s)) ∧ Below w.heap.size w w' := by
  unfold atB
  by_cases h : s = emp
  · have q := (emp_yes h).2.2
    rw [if_pos h]
    clear h
    go_enter Tryd.func55, Tryd.ntmps55
    go_wp2
    go_ret
    exact ⟨rfl, by (repeat' (first | with_reducible exact Below.refl _ _ | with_reducible assumption | with_reducible refine Below.drew ?_ | with_reducible refine below_drewN' ?_ _ | with_reducible refine Below.alloc ?_ ?_ _ | with_reducible refine Below.setCell ?_ ?_ _ | with_reducible refine below_step (by assumption) ?_ ?_ | omega | (simp; done) | (simp; omega)))⟩
  · have q := (emp_no h).2.2
    rw [if_neg h]
    clear h
    go_enter Tryd.func55, Tryd.ntmps55
    go_wp2
    go_ret
    exact ⟨rfl, by (repeat' (first | with_reducible exact Below.refl _ _ | with_reducible assumption | with_reducible refine Below.drew ?_ | with_reducible refine below_drewN' ?_ _ | with_reducible refine Below.alloc ?_ ?_ _ | with_reducible refine Below.setCell ?_ ?_ _ | with_reducible refine below_step (by assumption) ?_ ?_ | omega | (simp; done) | (simp; omega)))⟩
/-- What a step on a form gives. -/
def FmGives (base q : Nat) (L : List ByteArray) (w : World) (e : Ending) (w' : World) : Prop := e = .returned (.tuple #[]) ∧ FmAt base q L w' ∧ Below base w w'
set_option maxRecDepth 100000 in
set_option maxHeartbeats 8000000 in
theorem add_any (base q : Nat) (L P : List ByteArray) (a : Option Addr) (k : Nat) (w : World) (hF : FmAt base q L w) (hP : RowsAt scs 1 w a P) (h0 : 0 < P.length) (hk : P.length ≤ k) (hn : P.length ≤ 1000000) (hz : (joinB P).size ≤ 1000000) (hL : L.length ≤ 10000) :
    Calls Tryd.prog 37 #[.pointer (some ⟨q, 0, none⟩), .slice a P.length k] w (FmGives base q (L ++ [fmB P]) w) := by
  have HJ := Lib.hid (fun V (hV : Below w.heap.size w V) => join_any a k P V (hP.mono hV) h0 hk hn (by omega))
  have hlt := hF.lt
  obtain ⟨hbq, v, hbk, hown⟩ := hF
  obtain ⟨ao, ko, rfl⟩ := own_sl hown
  have HO := Lib.hid hown
  have HK := Lib.hid hbk
  have c0 : w.cell? ⟨q, 0, none⟩ = some (.slice ao L.length ko) := hbk.cell 0
  obtain ⟨j, hj⟩ : ∃ j, joinB P = j := ⟨_, rfl⟩
  rw [hj] at HJ hz
  obtain ⟨s1, es1, zs1, rs1⟩ := cat_step ⟨#[40]⟩ j 1 1000000 (by decide) hz (by omega)
  obtain ⟨s2, es2, zs2, rs2⟩ := cat_step s1 ⟨#[41]⟩ (1 + 1000000) 1 zs1 (by decide) (by omega)
  have HE := Lib.hid (show fmB P = s2 by unfold fmB; rw [hj, es2, es1])
  obtain ⟨i0, hi, hz0, hz1, hz2⟩ := info_parts Tryd.info9
  have Hi := Lib.hid hi
  have Hz0 := Lib.hid hz0
  have Hz1 := Lib.hid hz1
  have Hz2 := Lib.hid hz2
  clear hi hz0 hz1 hz2
  clear hP h0 hk hn hz hj es1 es2 zs1 zs2 hown hbk
  go_enter Tryd.func37, Tryd.ntmps37
  have hcH := held_cell
  refine region_rel_late 10 [0] (by kernel_rfl) (by kernel_rfl) (by kernel_rfl) ?_ ?_
  · exact fun _ _ _ _ _ h => h
  dsimp only [List.take, List.drop]
  repeat
    ((with_reducible refine relStep (fun K hK => ?_))
     (have HK := Lib.hid hK)
     clear hK
     (apply relInl
      · intro r n hf
        have Hf := Lib.hid hf
        clear hf
        (first
          | (fail)
          | (unfold relAt
             go_simp
             (first | (refine relUpon_val ?_ (Below.refl _ _); exact rfl) | exact rfl | (refine relUpon_enter ?_; (go_at_call 53; (with_reducible refine (HJ.out _ n.below).mono ?_); rintro e w9 ⟨rfl, hb⟩; exact ⟨⟨_, rfl, rfl⟩, hb⟩)))))
      (simp only [Act.put, List.setIfInBounds_toArray, List.set_cons_zero, List.set_cons_succ])
      (with_reducible refine HK.out _ _ ?_)
      clear HK K))
  (with_reducible refine relStep (fun K hK => ?_))
  (have HK := Lib.hid hK)
  clear hK
  refine relInr (IsTx [s2] 1) (IsTx.stays _ _) (fun r n hf => ?_) ?_
  · have Hf := Lib.hid hf
    clear hf HK K
    unfold relAt
    (skip)
    go_simp
    ((refine relUpon_val ?_ ?_; exact ⟨_, rfl, by simp, tx_new [s2] n.w _⟩; exact (Below.refl _ _).alloc (Nat.le_refl _) _))
  (simp only [Act.put, List.setIfInBounds_toArray, List.set_cons_zero, List.set_cons_succ])
  (with_reducible refine HK.out _ _ ?_)
  clear HK K
  refine relNil ?_
  intro r9 n9 hx9
  clear hcH
  (try simp only [List.nil_append, List.cons_append, List.mem_cons, List.not_mem_nil, or_false, forall_eq_or_imp, forall_eq, false_implies, implies_true] at hx9)
  obtain ⟨w9, hb9⟩ := n9
  (try dsimp only)
  obtain ⟨hc9, hf9⟩ := bcell hb9
  have hz9 := hb9.size
  (try simp at hz9)
  obtain ⟨bb, e9, hbb, hcc⟩ := hx9
  have hbb : bb < w9.heap.size := hbb
  (try simp only [Nat.zero_add, Nat.reduceAdd] at e9 ⊢)
  have x0 : w9.cell? ⟨bb, 0, none⟩ = some (.string s2) := hcc 0 s2 rfl
  rw [e9]
  have HO9 := Lib.hid (own_kept HO.out hb9)
  have HK9 := Lib.hid (HK.out.below hb9)
  have HB9 := Lib.hid (hb9.mono (Nat.le_trans hbq (Nat.le_of_lt hlt)))
  have HX0 := Lib.hid x0
  have hq9 : base ≤ w9.heap.size := by omega
  clear e9 hcc
  rename_i hbb0
  clear hbb0 hb9 hc9 hf9 hz9 c0 x0 HO HK HJ rs1 rs2
  refine wpList_append_src rfl (.tmp 8) (.tmp 13) 46 rfl base 9 i0 _ 1 16 Tryd.underlying46 Hi.out Hz0.out Hz1.out Hz2.out rfl (by decide) _ L.length (L.flatMap scs) rfl HO9.out (some ⟨bb, 0, none⟩) 1 1 (scs s2) rfl rfl (fun q e j u hj => by injection e with e; subst e; obtain ⟨rfl, rfl⟩ : j = 0 ∧ u = .string s2 := one_at hj; exact HX0.out) (fun e => by cases e) (scs_one s2) (by unfold maxLen; omega) (by omega) hq9 ?_
  intro v6 w6 hown6 hgrow6
  obtain ⟨a6, k6, rfl⟩ := own_sl hown6
  have hgrow7 : w9.grownBy w6 (Value.slice ao L.length ko).ownBlock := hgrow6
  clear hgrow6
  have hne : some q ≠ (Value.slice ao L.length ko).ownBlock := fun e => ((own_ty HO9.out e.symm).ne (blk_ty HK9.out) (by decide)) rfl
  have HK6 := Lib.hid (HK9.out.same (hgrow7.block q HK9.out.lt hne))
  have HB6 := Lib.hid (own_below HO9.out HB9.out hq9 hgrow7)
  have HO6 := Lib.hid hown6
  have k0 : w6.cell? ⟨q, 0, none⟩ = some (.slice ao L.length ko) := HK6.out.cell 0
  have kf := HK6.out.frozen 0
  have kl := HK6.out.lt
  clear hown6 hgrow7 hne HO9 HK9
  dsimp only [Act.put, Array.setIfInBounds]
  go_wp2
  go_end0
  refine ⟨rfl, ⟨hbq, _, HK6.out.set 0 _, ?_⟩, HB6.out.setCell hbq _⟩
  have h9 := own_same HO6.out fun g e => Below.heap_setCell w6 ⟨q, 0, none⟩ (.slice a6 (L.length + 1) k6) g ((own_ty HO6.out e).ne (blk_ty HK6.out) (by decide))
  rw [HE.out, List.length_append, List.flatMap_append]
  simpa using h9
end Go.Proofs.YtccplljbljpjpaaDoor
