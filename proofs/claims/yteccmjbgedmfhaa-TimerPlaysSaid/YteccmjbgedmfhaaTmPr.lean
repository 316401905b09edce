/-
  The program's table and the document's, side by side.
-/
import Derived.Test.YteccmjbgedmfhaaTmRf5
import Derived.Test.YteccmjbgedmfhaaTmLt
import Derived.Test.YteccmjbgedmfhaaTmCpy
import Derived.Test.YteccmjbgedmfhaaTmKn
namespace Go.Proofs.Yteccmjbgedmfhaa
open Go.RowKit
set_option linter.unusedVariables false
set_option linter.unusedSimpArgs false

/-- The program's table holds T', the document's holds T. -/
structure PN (w0 w : World) (b m p : Nat) (T T' : ByteArray → Option Int) (M : List Nt) (v : Value) (n : Nat) : Prop where
  t : TB w b m T' n
  r : RT w w0.heap.size p M v
  e : Rep T M
  len : M.length ≤ n
  le : ∀ x ∈ M, x.1.size ≤ 1000000000
  bl : Below w0.heap.size w0 w
  hb : w0.heap.size ≤ b
  hm : w0.heap.size ≤ m
abbrev PS (w0 w : World) (b m p : Nat) (T : ByteArray → Option Int) (M : List Nt) (v : Value) (n : Nat) : Prop := PN w0 w b m p T T M v n
section
variable {w0 w w' : World} {b m p : Nat} {T T' : ByteArray → Option Int} {M : List Nt} {v : Value} {n : Nat}
theorem blk_ne {b p : Nat} {t t' : TypeId} {cs cs' : List Value} (h : Blk w b t cs) (h' : Blk w p t' cs') (ht : t ≠ t') : b ≠ p := fun e => by
  subst e
  unfold Blk at h h'
  rw [h] at h'
  injection h' with h'
  injection h' with _ h2
  exact ht h2
theorem map_ne {k : TypeId} {f : ByteArray → Option Value} {t : TypeId} {cs : List Value} (h : MapIs Try.prog k w m n f) (h' : Blk w p t cs) : m ≠ p := fun e => by
  subst e
  obtain ⟨D, ⟨es, clock, hb, _⟩, _⟩ := h
  unfold Blk at h'
  rw [hb] at h'
  cases h'
theorem own_ne {B g k q : Nat} {e t : TypeId} {v : Value} {xs cs : List Value} (h : w.ownsRow B e k v q xs) (hg : v.ownBlock = some g) (h' : Blk w b t cs) (ht : e ≠ t) : g ≠ b := fun e' => by
  subst e'
  rcases h.2 with ⟨rfl, _⟩ | ⟨g', cap, cur, rfl, h1, h2, h3⟩
  · cases hg
  · obtain rfl : g' = g := Option.some.inj hg
    unfold Blk at h'
    rw [h2] at h'
    injection h' with h'
    injection h' with _ h4
    exact ht h4
theorem own_map {B g k q k' : Nat} {e kt : TypeId} {v : Value} {xs : List Value} {f : ByteArray → Option Value} (h : w.ownsRow B e k v q xs) (hg : v.ownBlock = some g) (h' : MapIs Try.prog kt w m k' f) : g ≠ m := fun e' => by
  subst e'
  obtain ⟨D, ⟨es, clock, hb, _⟩, _⟩ := h'
  rcases h.2 with ⟨rfl, _⟩ | ⟨g', cap, cur, rfl, h1, h2, h3⟩
  · cases hg
  · obtain rfl : g' = g := Option.some.inj hg
    rw [hb] at h2
    cases h2
theorem PN.bp (h : PN w0 w b m p T T' M v n) : b ≠ p := blk_ne h.t.row h.r.row (by decide)
theorem PN.mp (h : PN w0 w b m p T T' M v n) : m ≠ p := map_ne h.t.mp h.r.row
theorem PN.vb (h : PN w0 w b m p T T' M v n) : ∀ g, v.ownBlock = some g → g ∉ [b, m] := fun g hg => by
  have h1 := own_ne h.r.own hg h.t.row (by decide)
  have h2 := own_map h.r.own hg h.t.mp
  simp [h1, h2]
theorem PN.pb (h : PN w0 w b m p T T' M v n) : p ∉ [b, m] := by
  have h1 := h.bp
  have h2 := h.mp
  simp
  exact ⟨fun e => h1 e.symm, fun e => h2 e.symm⟩
theorem PN.bp2 (h : PN w0 w b m p T T' M v n) : b ∉ [p] ∧ m ∉ [p] := ⟨by simpa using h.bp, by simpa using h.mp⟩
theorem PN.pl (h : PN w0 w b m p T T' M v n) : w0.heap.size ≤ p := h.r.hp
theorem PN.below (h : PN w0 w b m p T T' M v n) (hB : Below w.heap.size w w') : PN w0 w' b m p T T' M v n :=
  ⟨h.t.below hB, h.r.below hB, h.e, h.len, h.le, h.bl.trans (hB.mono h.bl.size), h.hb, h.hm⟩
theorem PN.more {n' : Nat} (h : PN w0 w b m p T T' M v n) (hn : n ≤ n') : PN w0 w b m p T T' M v n' :=
  ⟨h.t.mono hn, h.r, h.e, Nat.le_trans h.len hn, h.le, h.bl, h.hb, h.hm⟩
theorem PN.lts (h : PN w0 w b m p T T' M v n) : b < w.heap.size ∧ m < w.heap.size ∧ p < w.heap.size := ⟨h.t.row.lt, h.t.mp.lt, h.r.row.lt⟩
theorem PN.turn1 (h : PN w0 w b m p T T' M v n) {U : ByteArray → Option Int} {n' : Nat} (hn : n ≤ n') (ht : TB w' b m U n') (ho : Only [b, m] w w') : PN w0 w' b m p T U M v n' :=
  ⟨ht, h.r.only ho h.pb h.vb, h.e, Nat.le_trans h.len hn, h.le, ho.below h.bl h.bl.size (by simp; exact ⟨h.hb, h.hm⟩), h.hb, h.hm⟩
theorem PN.turn2 (h : PN w0 w b m p T T' M v n) {M' : List Nt} {v' : Value} (hr : Rep T' M') (hl : M'.length ≤ n) (hle : ∀ x ∈ M', x.1.size ≤ 1000000000) (ht : RT w' w0.heap.size p M' v') (ho : Only [p] w w') : PS w0 w' b m p T' M' v' n :=
  ⟨h.t.only ho h.bp2.1 h.bp2.2, ht, hr, hl, hle, ho.below h.bl h.bl.size (by simp; exact h.pl), h.hb, h.hm⟩
theorem PN.note1 (h : PS w0 w b m p T M v n) (hn : n ≤ 100000) (a : Option Addr) (ka : Nat) (l : List ByteArray) (now : Int) (hF : TxtL w0 a l) (hl : l.length ≤ 20) (hs : ∀ s ∈ l, s.size ≤ 300) :
    Calls Try.prog 9 #[.pointer (some ⟨b, 0, none⟩), .slice a l.length ka, .int .i64 now] w fun e w' => e = .returned (.tuple #[]) ∧ PN w0 w' b m p T (noteA T l now) M v (n + 20) ∧ Only [b, m] w w' := by
  refine (note_all b m T n a ka l now w h.t (by omega) (hF.mono h.bl) (by omega) (fun s hs' => by have := hs s hs'; unfold maxLen; omega)).mono fun e w' ⟨he, hT, hO⟩ => ⟨he, h.turn1 (by omega) (hT.mono (by omega)) hO, hO⟩
theorem PN.note2 {l : List ByteArray} {now : Int} (h : PN w0 w b m p T (noteA T l now) M v (n + 20)) (hm : M.length ≤ n) (hn : n ≤ 100000) (a : Option Addr) (ka : Nat) (hF : TxtL w0 a l) (hl : l.length ≤ 20) (hs : ∀ s ∈ l, s.size ≤ 300) :
    Calls Try.prog 10 #[.pointer (some ⟨p, 0, none⟩), .slice a l.length ka, .int .i64 now] w fun e w' => e = .returned (.tuple #[]) ∧ ∃ M' v', PS w0 w' b m p (noteA T l now) M' v' (n + 20) ∧ Only [p] w w' := by
  cases ht : timeB now with
  | true =>
    have h1 := of_decide_eq_true ht
    have e1 : noteA T l now = noteT T l now := if_pos ht
    rw [e1] at h ⊢
    refine (rnote_yes w0.heap.size p T M v a ka l now w h.r h.e (by omega) (hF.mono h.bl) (fun h0 => ?_) (by omega) (fun s hs' => by have := hs s hs'; omega) h.le h1.1 h1.2).mono fun e w' ⟨he, M', v', hR, hl', hle, hT, hO⟩ => ⟨he, M', v', h.turn2 hR (by omega) hle hT hO, hO⟩
    obtain ⟨b', off, e, hb', _⟩ := hF h0
    refine ⟨b', off, e, ?_⟩
    have := h.pl
    omega
  | false =>
    have e1 : noteA T l now = T := if_neg (by rw [ht]; exact Bool.false_ne_true)
    rw [e1] at h ⊢
    exact (rnote_not p _ now w ht).mono fun e w' ⟨he, hw⟩ => ⟨he, M, v, by rw [hw]; exact h, by rw [hw]; exact Only.refl _ _⟩
theorem PN.drop1 (h : PS w0 w b m p T M v n) (g : ByteArray) (hg : g.size ≤ maxLen) :
    Calls Try.prog 11 #[.pointer (some ⟨b, 0, none⟩), .string g] w fun e w' => e = .returned (.tuple #[]) ∧ PN w0 w' b m p T (updT T g none) M v n ∧ Only [b, m] w w' :=
  (drop_any b m T n g w h.t hg).mono fun e w' ⟨he, hT, hO⟩ => ⟨he, h.turn1 (Nat.le_refl _) hT hO, hO⟩
theorem PN.drop2 {g : ByteArray} (h : PN w0 w b m p T (updT T g none) M v n) (hn : n ≤ 100000) :
    Calls Try.prog 12 #[.pointer (some ⟨p, 0, none⟩), .string g] w fun e w' => e = .returned (.tuple #[]) ∧ ∃ M' v', PS w0 w' b m p (updT T g none) M' v' n ∧ Only [p] w w' :=
  (rdrop_any w0.heap.size p M v g w h.r (by have := h.len; omega)).mono fun e w' ⟨he, v', hT, hO, _⟩ => ⟨he, _, v', h.turn2 (h.e.drop g) (filter_le h.len) (fun x hx => h.le x (List.mem_filter.1 hx).1) hT hO, hO⟩
/-- A copy beside its table. -/
theorem PN.copy (h : PS w0 w b m p T M v n) :
    Calls Try.prog 13 #[.pointer (some ⟨b, 0, none⟩)] w fun e w' => ∃ b2 m2, e = .returned (.pointer (some ⟨b2, 0, none⟩)) ∧ PS w0 w' b2 m2 p T M v n ∧ TB w' b m T n ∧ b2 ∉ [b, m] ∧ m2 ∉ [b, m] ∧ Below w.heap.size w w' := by
  refine (copy_any b m T n w h.t).mono fun e w' ⟨b2, m2, he, hT, hb2, hm2, hB⟩ => ?_
  obtain ⟨l1, l2, l3⟩ := h.lts
  have hz := h.bl.size
  exact ⟨b2, m2, he, ⟨hT, h.r.below hB, h.e, h.len, h.le, h.bl.trans (hB.mono hz), by omega, by omega⟩, h.t.below hB, by simp; omega, by simp; omega, hB⟩
theorem PN.aside {b2 m2 : Nat} (h : PS w0 w b2 m2 p T M v n) (hT : TB w b m T n) (hn : n ≤ 100000) (h1 : b2 ∉ [b, m]) (h2 : m2 ∉ [b, m]) (hb : w0.heap.size ≤ b) (hm : w0.heap.size ≤ m) :
    Calls Try.prog 9 #[.pointer (some ⟨b, 0, none⟩), .slice none 0 0, .int .i64 1] w fun e w' => e = .returned (.tuple #[]) ∧ PS w0 w' b2 m2 p T M v n ∧ Only [b, m] w w' := by
  refine (note_all b m T n none 0 [] 1 w hT (by omega) RowsAt.nil (by simp) (by simp)).mono fun e w' ⟨he, _, hO⟩ => ⟨he, ⟨h.t.only hO h1 h2, h.r.only hO ?_ fun g hg => ?_, h.e, h.len, h.le, hO.below h.bl h.bl.size (by simp; exact ⟨hb, hm⟩), h.hb, h.hm⟩, hO⟩
  · have a1 := blk_ne hT.row h.r.row (by decide)
    have a2 := map_ne hT.mp h.r.row
    simp
    exact ⟨fun e => a1 e.symm, fun e => a2 e.symm⟩
  · have a1 := own_ne h.r.own hg hT.row (by decide)
    have a2 := own_map h.r.own hg hT.mp
    simp [a1, a2]
theorem nm_is {base : Nat} {t : TypeId} {l : List Nt} {v : Value} {w : World} (h : OwnL nmE 1 base t l v w) : IsL scs 1 (l.map (·.1)) v w := (OwnL.texts h).isL scs_len (by decide)
theorem PN.names1 (h : PS w0 w b m p T M v n) (hn : n ≤ 100000) : Calls Try.prog 17 #[.pointer (some ⟨b, 0, none⟩)] w (Gives w (IsL scs 1 (M.map (·.1)))) := by
  refine (names_any b m T n w h.t (by omega)).mono fun e w' ⟨v, l, he, hN⟩ => ?_
  obtain rfl := ord_one hN.ord h.e.names
  exact ⟨⟨v, he, isL_own hN.own⟩, hN.below⟩
theorem PN.names2 (h : PS w0 w b m p T M v n) (hn : n ≤ 100000) : Calls Try.prog 18 #[.pointer (some ⟨p, 0, none⟩)] w (Gives w (IsL scs 1 (M.map (·.1)))) := by
  refine (rnames_any w0.heap.size p M v w h.r (by have := h.len; omega)).mono fun e w' ⟨⟨v, he, hv⟩, hB⟩ => ?_
  rw [filt_allN] at hv
  exact ⟨⟨v, he, nm_is hv⟩, hB⟩
def ripeL (T : ByteArray → Option Int) (M : List Nt) (now len : Int) : List ByteArray := if (timeB now && decide (0 ≤ len)) = true then (M.map (·.1)).filter (ripeB T now len) else []
theorem ripe_map (h : Rep T M) (now len : Int) : (M.filter (ripeN now len)).map (·.1) = (M.map (·.1)).filter (ripeB T now len) := by
  rw [List.filter_map]
  refine congrArg _ (List.filter_congr fun x hx => ?_)
  show ripeN now len x = ripeB T now len x.1
  unfold ripeN ripeB ordT
  rw [h.mem hx]
  by_cases h1 : len ≤ now - x.2
  · have h2 : ¬ now - x.2 < len := by omega
    simp [h1, h2]
  · have h2 : now - x.2 < len := by omega
    simp [h1, h2]
theorem PN.ripe1 (h : PS w0 w b m p T M v n) (hn : n ≤ 100000) (now len : Int) : Calls Try.prog 19 #[.pointer (some ⟨b, 0, none⟩), .int .i64 now, .int .i64 len] w (Gives w (IsL scs 1 (ripeL T M now len))) := by
  cases hv : timeB now && decide (0 ≤ len) with
  | true =>
    have e1 : ripeL T M now len = (M.map (·.1)).filter (ripeB T now len) := if_pos hv
    rw [e1]
    rw [Bool.and_eq_true] at hv
    have h1 := of_decide_eq_true hv.1
    have h2 := of_decide_eq_true hv.2
    refine (ripe_yes b m T n now len w h.t (by omega) h1.1 h1.2 h2).mono fun e w' ⟨v, r, he, hR⟩ => ?_
    obtain ⟨l, ho, _, rfl⟩ := hR.from_
    obtain rfl := ord_one ho h.e.names
    exact ⟨⟨v, he, hR.rows⟩, hR.below⟩
  | false =>
    have e1 : ripeL T M now len = [] := if_neg (by rw [hv]; exact Bool.false_ne_true)
    rw [e1]
    exact (ripe_not b m T n now len w h.t hv).mono fun e w' ⟨he, hB⟩ => ⟨⟨_, he, IsL.nil⟩, hB⟩
theorem PN.ripe2 (h : PS w0 w b m p T M v n) (hn : n ≤ 100000) (now len : Int) : Calls Try.prog 20 #[.pointer (some ⟨p, 0, none⟩), .int .i64 now, .int .i64 len] w (Gives w (IsL scs 1 (ripeL T M now len))) := by
  have hM : M.length ≤ 1000000 := by have := h.len; omega
  cases hv : timeB now && decide (0 ≤ len) with
  | true =>
    have e1 : ripeL T M now len = (M.filter (ripeN now len)).map (·.1) := by rw [ripe_map h.e]; exact if_pos hv
    rw [e1]
    rw [Bool.and_eq_true] at hv
    have h1 := of_decide_eq_true hv.1
    have h2 := of_decide_eq_true hv.2
    exact (rripe_yes w0.heap.size p M v now len w h.r hM h.e.ok h1.1 h1.2 h2).mono fun e w' ⟨⟨v, he, hv⟩, hB⟩ => ⟨⟨v, he, nm_is hv⟩, hB⟩
  | false =>
    have e1 : ripeL T M now len = [] := if_neg (by rw [hv]; exact Bool.false_ne_true)
    rw [e1]
    exact (rripe_not w0.heap.size p M v now len w h.r hM hv).mono fun e w' ⟨he, hw⟩ => ⟨⟨_, he, IsL.nil⟩, by rw [hw]; exact Below.refl _ _⟩
theorem texts_same (a b : Option Addr) (ka kb : Nat) (L : List ByteArray) (w : World) (hF : TxtL w a L) (hG : TxtL w b L) (hl : L.length ≤ 1000000) :
    Calls Try.prog 16 #[.slice a L.length ka, .slice b L.length kb] w fun e w' => e = .returned (.bool true) ∧ Below w.heap.size w w' := by
  have h := texts_any a b ka kb L L w hF hG hl hl
  rwa [decide_eq_true rfl] at h
end
end Go.Proofs.Yteccmjbgedmfhaa
