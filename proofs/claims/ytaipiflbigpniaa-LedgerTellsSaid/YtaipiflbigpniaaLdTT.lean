/-
  One table in a world of the law's, and a table beside its copy.
-/
import Derived.Test.YtaipiflbigpniaaLdF
import Derived.Test.YtaipiflbigpniaaLd8
import Derived.Test.YtaipiflbigpniaaLd9
namespace Go.Proofs.Ytaipiflbigpniaa
open Go.ChangeShapes Go.WideShapes Go.ChangeAt Go.RowKit
set_option linter.unusedVariables false
set_option linter.unusedSimpArgs false

theorem pr_of_right {l : List Gp} (h : rightGs l = true) : ∀ g ∈ l, 0 ≤ g.pr ∧ g.pr ≤ 1125899906842624 := fun g hg => by
  obtain ⟨k, hk⟩ := List.getElem?_of_mem hg
  have hok : okG l k = true := by
    cases e : okG l k with
    | true => rfl
    | false =>
      rw [rightGs_bad (lt_at hk) e] at h
      cases h
  rw [okG_at hk, Bool.and_eq_true, Bool.and_eq_true] at hok
  have h1 := hok.1.1
  unfold rightG inB at h1
  simp only [Bool.and_eq_true, decide_eq_true_eq] at h1
  obtain ⟨h1, _⟩ := h1
  have := h1
  simp only [and_assoc] at this
  omega

theorem own_base3 {w : World} {B B' : Nat} {e : TypeId} {k n : Nat} {v : Value} {xs : List Value} (h : w.ownsRow B e k v n xs) (hB : B' ≤ B) : w.ownsRow B' e k v n xs := by
  refine ⟨h.1, ?_⟩
  rcases h.2 with h | ⟨g, cap, cur, e1, h2, h3⟩
  · exact .inl h
  · exact .inr ⟨g, cap, cur, e1, Nat.le_trans hB h2, h3⟩
/-- The table i ticks on, in a world of the law's. -/
structure TT (w0 w : World) (b : Nat) (A : List Ac) (v : Value) (tk : Int) : Prop where
  t : LT w w0.heap.size b A v tk
  bl : Below w0.heap.size w0 w
theorem TT.below {w0 w w' : World} {b : Nat} {A : List Ac} {v : Value} {tk : Int} (h : TT w0 w b A v tk) (hb : Below w.heap.size w w') : TT w0 w' b A v tk := ⟨h.t.below hb, h.bl.trans (hb.mono h.bl.size)⟩
theorem TT.own {w0 w : World} {b : Nat} {A : List Ac} {v : Value} {tk : Int} (h : TT w0 w b A v tk) : ∀ k ∈ b :: v.ownBlock.toList, w0.heap.size ≤ k ∧ k < w.heap.size := fun k hk => by
  rcases List.mem_cons.1 hk with rfl | hk
  · exact ⟨h.t.hb, h.t.row.lt⟩
  · exact own_lt h.t.own (by simpa using hk)
theorem TT.add {w0 w : World} {b : Nat} {A : List Ac} {v : Value} {tk : Int} (h : TT w0 w b A v tk) (c : Option Addr) (kc : Nat) (L : List Ins) (hC : InsL w0 c L) (hL : L.length ≤ 60) (hg : ∀ y ∈ L, y.gp.size ≤ maxLen) (hA : A.length ≤ 20) (ht0 : 0 ≤ tk) (ht1 : tk ≤ 100) (hn : ∀ x ∈ A, x.nm.size ≤ maxLen ∧ 0 ≤ x.su ∧ x.su ≤ 1000000000 ∧ 0 ≤ x.pk ∧ x.pk ≤ 1000000000) :
    Calls Try.prog 12 #[.pointer (some ⟨b, 0, none⟩), .slice c L.length kc] w fun e w' => e = .returned (.tuple #[]) ∧ TT w0 w' b (A.map (addA L)) v (tk + 1) ∧ Only (b :: v.ownBlock.toList) w w' := by
  refine (add_any w0.heap.size b A v tk c kc L w h.t (hC.mono h.bl) (fun h0 q o e => ?_) (by omega) (by omega) ht0 (by omega) hg hn).mono ?_
  · obtain ⟨q2, o2, e2, hq, _⟩ := hC h0
    rw [e] at e2
    injection e2 with e2
    injection e2 with e2
    have := h.t.hb
    omega
  · rintro e w' ⟨rfl, hT, ho⟩
    exact ⟨rfl, ⟨hT, ho.below h.bl h.bl.size (fun k hk => (h.own k hk).1)⟩, ho⟩
/-- The table and its copy. -/
structure TC (w0 w : World) (b : Nat) (A : List Ac) (v : Value) (tk : Int) (b2 : Nat) (A2 : List Ac) (v2 : Value) (tk2 : Int) : Prop where
  t1 : TT w0 w b A v tk
  t2 : TT w0 w b2 A2 v2 tk2
  ap : ∀ k ∈ b2 :: v2.ownBlock.toList, k ∉ b :: v.ownBlock.toList
theorem TC.below {w0 w w' : World} {b b2 : Nat} {A A2 : List Ac} {v v2 : Value} {tk tk2 : Int} (h : TC w0 w b A v tk b2 A2 v2 tk2) (hb : Below w.heap.size w w') : TC w0 w' b A v tk b2 A2 v2 tk2 := ⟨h.t1.below hb, h.t2.below hb, h.ap⟩
theorem TT.copy {w0 w : World} {b : Nat} {A : List Ac} {v : Value} {tk : Int} (h : TT w0 w b A v tk) (hA : A.length ≤ 20) :
    Calls Try.prog 14 #[.pointer (some ⟨b, 0, none⟩)] w fun e w' => ∃ b2 v2, e = .returned (.pointer (some ⟨b2, 0, none⟩)) ∧ TC w0 w' b A v tk b2 A v2 tk := by
  refine (lcopy_any w0.heap.size b A v tk w h.t (by omega)).mono ?_
  rintro e w' ⟨b2, v2, rfl, hT, hB⟩
  have hz := h.bl.size
  refine ⟨b2, v2, rfl, h.below hB, ⟨⟨hT.row, own_base3 hT.own hz, hT.ne, Nat.le_trans hz hT.hb⟩, h.bl.trans (hB.mono hz)⟩, fun k hk hk2 => ?_⟩
  have h1 := (h.own k hk2).2
  rcases List.mem_cons.1 hk with rfl | hk
  · have := hT.hb
    omega
  · have := (own_lt hT.own (by simpa using hk)).1
    omega
theorem TC.only {w0 w w' : World} {b b2 : Nat} {A A2 A' : List Ac} {v v2 : Value} {tk tk2 tk' : Int} (h : TC w0 w b A v tk b2 A2 v2 tk2) (h1 : TT w0 w' b A' v tk') (ho : Only (b :: v.ownBlock.toList) w w') : TC w0 w' b A' v tk' b2 A2 v2 tk2 :=
  ⟨h1, ⟨h.t2.t.only ho (h.ap b2 List.mem_cons_self) (fun g hg => h.ap g (List.mem_cons_of_mem _ (by simpa using hg))), h1.bl⟩, h.ap⟩
end Go.Proofs.Ytaipiflbigpniaa
