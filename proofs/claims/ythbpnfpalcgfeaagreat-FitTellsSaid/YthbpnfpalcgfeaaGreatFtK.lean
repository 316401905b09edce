/-
  Fit: what known calls.
-/
import Derived.Test.YthbpnfpalcgfeaaGreatFtB
namespace Go.Proofs.YthbpnfpalcgfeaaGreat
open Go.RowKit
set_option linter.unusedVariables false
set_option linter.unusedSimpArgs false

def mF : Mac := ⟨⟨#[109]⟩, emp, 1000, 0, 0, 9, 0, none, 0, [], none, 0, [], true⟩
def pF (nm : ByteArray) : Pd := pK nm 600
def tM : ByteArray := ⟨#[109]⟩
theorem mF_in (w : World) : MacIn w mF := ⟨⟨RowsAt.nil, RowsAt.nil, Nat.zero_le _, Nat.zero_le _⟩, fun _ => ⟨rfl, rfl⟩, Nat.le_refl _, fun _ => ⟨rfl, rfl⟩, Nat.le_refl _⟩
set_option maxRecDepth 100000 in
theorem mF_light : lightM mF = true := by decide +kernel
set_option maxRecDepth 100000 in
theorem pF_light : lightP (pF ⟨#[112]⟩) = true ∧ lightP (pF ⟨#[113]⟩) = true := ⟨by decide +kernel, by decide +kernel⟩
theorem light_E {p p' : Pd} (h : podE p' = podE p) : lightP p' = lightP p := by
  have e : ∀ p, lightP (podE p) = lightP p := fun p => by
    unfold lightP podE
    dsimp only
    rw [List.all_map, List.length_map]
    rfl
  rw [← e p', ← e p, h]
theorem nm_E {p p' : Pd} (h : podE p' = podE p) : p'.nm = p.nm := by
  have e : (podE p').nm = (podE p).nm := by rw [h]
  exact e
theorem ya_one {V : World} {X : Nat} {c : Option Addr} {bs : List Bd} (hm : MacL V (some ⟨X, 0, none⟩) [mF]) (hb : BndL V c bs) (hi : ∀ b ∈ bs, PodIn V b.p) (hl : bs.length ≤ 1000) (hp : ∀ b ∈ bs, lightP b.p = true ∧ b.on = tM) : YA V (some ⟨X, 0, none⟩) [mF] c bs :=
  ⟨hm, fun m h => by obtain rfl : m = mF := (by simpa using h); exact mF_in V, hb, hi, by decide, hl, fun m h => by obtain rfl : m = mF := (by simpa using h); exact mF_light, fun b h => (hp b h).1, fun b h => by rw [(hp b h).2]; decide⟩
/-- One pod that was put. -/
structure PutA (V : World) (a : Option Addr) (p1 : Pd) : Prop where
  bl : BndL V a [⟨p1, tM⟩]
  pi : PodIn V p1
  pe : podE p1 = podE (pF ⟨#[112]⟩)
theorem PutA.mono {V V' : World} {a : Option Addr} {p1 : Pd} (h : PutA V a p1) (hb : Below V.heap.size V V') : PutA V' a p1 := ⟨h.bl.mono hb, h.pi.mono hb, h.pe⟩
theorem PutA.ya {V : World} {X : Nat} {a : Option Addr} {p1 : Pd} (h : PutA V a p1) (hm : MacL V (some ⟨X, 0, none⟩) [mF]) : YA V (some ⟨X, 0, none⟩) [mF] a [⟨p1, tM⟩] :=
  ya_one hm h.bl (fun b hb => by obtain rfl : b = ⟨p1, tM⟩ := (by simpa using hb); exact h.pi) (by show 1 ≤ 1000; decide) (fun b hb => by obtain rfl : b = ⟨p1, tM⟩ := (by simpa using hb); exact ⟨(light_E h.pe).trans pF_light.1, rfl⟩)
theorem pF_at (V : World) (nm : ByteArray) : PodAt V (pF nm) := (pK_in V nm 600).here
set_option maxRecDepth 100000 in
theorem kf_why1 : whyF [mF] [⟨pF ⟨#[112]⟩, tM⟩] (pF ⟨#[113]⟩) tM = 2 := by kernel_rfl
set_option maxRecDepth 100000 in
theorem kf_why2 : whyF [mF] [⟨pF ⟨#[112]⟩, tM⟩] (pF ⟨#[113]⟩) ⟨#[120]⟩ = 1 := by kernel_rfl
set_option maxRecDepth 100000 in
theorem kf_where : whereF [mF] [] (pF ⟨#[112]⟩) = [tM] := by kernel_rfl
set_option maxRecDepth 100000 in
theorem kf_feas1 : feasF [mF] [⟨pF ⟨#[112]⟩, tM⟩] = true := by kernel_rfl
set_option maxRecDepth 100000 in
theorem kf_feas2 : feasF [mF] [⟨pF ⟨#[112]⟩, tM⟩, ⟨pF ⟨#[113]⟩, tM⟩] = false := by kernel_rfl
theorem alike1 {p1 : Pd} (h : podE p1 = podE (pF ⟨#[112]⟩)) : [(⟨p1, tM⟩ : Bd)].map bdE = [(⟨pF ⟨#[112]⟩, tM⟩ : Bd)].map bdE := by
  show [(⟨podE p1, tM⟩ : Bd)] = [(⟨podE (pF ⟨#[112]⟩), tM⟩ : Bd)]
  rw [h]
theorem alike2 {p1 q1 : Pd} (h : podE p1 = podE (pF ⟨#[112]⟩)) (h2 : podE q1 = podE (pF ⟨#[113]⟩)) : [(⟨p1, tM⟩ : Bd), ⟨q1, tM⟩].map bdE = [(⟨pF ⟨#[112]⟩, tM⟩ : Bd), ⟨pF ⟨#[113]⟩, tM⟩].map bdE := by
  show [(⟨podE p1, tM⟩ : Bd), ⟨podE q1, tM⟩] = [(⟨podE (pF ⟨#[112]⟩), tM⟩ : Bd), ⟨podE (pF ⟨#[113]⟩), tM⟩]
  rw [h, h2]
theorem ka_put0 (V : World) : Calls Tryz.prog 19 #[.slice none 0 0, .agg #[.string ⟨#[112]⟩, .int .i64 600, .int .i64 0, .int .i64 0, .int .i64 1, .int .i64 0, .slice none 0 0, .slice none 0 0, .slice none 0 0, .slice none 0 0, .slice none 0 0, .slice none 0 0, .bool false, .slice none 0 0, .int .i64 0, .int .i64 0, .string ⟨#[]⟩, .bool false, .bool false, .bool false], .string ⟨#[109]⟩] V fun e w' => (∃ a k p1, e = .returned (.slice a 1 k) ∧ PutA w' a p1) ∧ Below V.heap.size V w' :=
  (put_any none 0 [] (pF ⟨#[112]⟩) tM V RowsAt.nil (pF_at V _) pF_light.1 (Nat.zero_le _)).mono fun e w' h => by
    obtain ⟨⟨a, k, p', e1, h1, h2, h3, h4, h5⟩, hb⟩ := h
    exact ⟨⟨a, k, p', e1, h2, h3, h1⟩, hb⟩
theorem ka_tally {V : World} {X : Nat} {a : Option Addr} {p1 : Pd} (h : PutA V a p1) (hm : MacL V (some ⟨X, 0, none⟩) [mF]) (k : Nat) : Calls Tryz.prog 11 #[.slice (some ⟨X, 0, none⟩) 1 1, .slice a 1 k, .agg #[.string ⟨#[113]⟩, .int .i64 600, .int .i64 0, .int .i64 0, .int .i64 1, .int .i64 0, .slice none 0 0, .slice none 0 0, .slice none 0 0, .slice none 0 0, .slice none 0 0, .slice none 0 0, .bool false, .slice none 0 0, .int .i64 0, .int .i64 0, .string ⟨#[]⟩, .bool false, .bool false, .bool false]] V fun e w' => e = .returned (.agg #[.int .i64 0, .int .i64 0, .int .i64 1, .int .i64 0, .int .i64 0, .int .i64 0, .int .i64 0, .int .i64 0, .int .i64 0]) ∧ Below V.heap.size V w' := by
  have h9 := tally_any (some ⟨X, 0, none⟩) a 1 k [mF] [⟨p1, tM⟩] (pF ⟨#[113]⟩) V (h.ya hm) (pF_at V _) pF_light.2
  have e : whyL [mF] [⟨p1, tM⟩] (pF ⟨#[113]⟩) = [2] := by
    show [whyF [mF] [⟨p1, tM⟩] (pF ⟨#[113]⟩) tM] = [2]
    rw [why_alike [mF] (alike1 h.pe) rfl, kf_why1]
  rw [e] at h9
  exact h9
theorem ka_where1 {V : World} {X : Nat} (hm : MacL V (some ⟨X, 0, none⟩) [mF]) : Calls Tryz.prog 9 #[.slice (some ⟨X, 0, none⟩) 1 1, .slice none 0 0, .agg #[.string ⟨#[112]⟩, .int .i64 600, .int .i64 0, .int .i64 0, .int .i64 1, .int .i64 0, .slice none 0 0, .slice none 0 0, .slice none 0 0, .slice none 0 0, .slice none 0 0, .slice none 0 0, .bool false, .slice none 0 0, .int .i64 0, .int .i64 0, .string ⟨#[]⟩, .bool false, .bool false, .bool false]] V fun e w' => (∃ a k, e = .returned (.slice a 1 k) ∧ TxtL w' a [tM]) ∧ Below V.heap.size V w' := by
  have h9 := where_any (some ⟨X, 0, none⟩) none 1 0 [mF] [] (pF ⟨#[112]⟩) V (ya_one hm RowsAt.nil (fun b hb => by cases hb) (Nat.zero_le _) (fun b hb => by cases hb)) (pF_at V _) pF_light.1
  rw [kf_where] at h9
  refine h9.mono fun e w' h => ?_
  obtain ⟨⟨v, rfl, hv⟩, hb⟩ := h
  obtain ⟨a, k, rfl, -, ht⟩ := IsL.of_own scs_len (by decide) hv
  exact ⟨⟨a, k, rfl, ht⟩, hb⟩
theorem ka_where2 {V : World} {X : Nat} {a : Option Addr} {p1 : Pd} (h : PutA V a p1) (hm : MacL V (some ⟨X, 0, none⟩) [mF]) (k : Nat) : Calls Tryz.prog 9 #[.slice (some ⟨X, 0, none⟩) 1 1, .slice a 1 k, .agg #[.string ⟨#[113]⟩, .int .i64 600, .int .i64 0, .int .i64 0, .int .i64 1, .int .i64 0, .slice none 0 0, .slice none 0 0, .slice none 0 0, .slice none 0 0, .slice none 0 0, .slice none 0 0, .bool false, .slice none 0 0, .int .i64 0, .int .i64 0, .string ⟨#[]⟩, .bool false, .bool false, .bool false]] V fun e w' => (∃ a k, e = .returned (.slice a 0 k)) ∧ Below V.heap.size V w' := by
  have h9 := where_any (some ⟨X, 0, none⟩) a 1 k [mF] [⟨p1, tM⟩] (pF ⟨#[113]⟩) V (h.ya hm) (pF_at V _) pF_light.2
  have e : whereF [mF] [⟨p1, tM⟩] (pF ⟨#[113]⟩) = [] := by
    have e9 := tc_where [mF] [⟨p1, tM⟩] (pF ⟨#[113]⟩)
    have e : whyL [mF] [⟨p1, tM⟩] (pF ⟨#[113]⟩) = [2] := by
      show [whyF [mF] [⟨p1, tM⟩] (pF ⟨#[113]⟩) tM] = [2]
      rw [why_alike [mF] (alike1 h.pe) rfl, kf_why1]
    rw [e] at e9
    exact List.eq_nil_of_length_eq_zero e9.symm
  rw [e] at h9
  refine h9.mono fun e w' h => ?_
  obtain ⟨⟨v, rfl, hv⟩, hb⟩ := h
  obtain ⟨a, k, rfl, -, ht⟩ := IsL.of_own scs_len (by decide) hv
  exact ⟨⟨a, k, rfl⟩, hb⟩
theorem ka_why1 {V : World} {X : Nat} {a : Option Addr} {p1 : Pd} (h : PutA V a p1) (hm : MacL V (some ⟨X, 0, none⟩) [mF]) (k : Nat) : Calls Tryz.prog 6 #[.slice (some ⟨X, 0, none⟩) 1 1, .slice a 1 k, .agg #[.string ⟨#[113]⟩, .int .i64 600, .int .i64 0, .int .i64 0, .int .i64 1, .int .i64 0, .slice none 0 0, .slice none 0 0, .slice none 0 0, .slice none 0 0, .slice none 0 0, .slice none 0 0, .bool false, .slice none 0 0, .int .i64 0, .int .i64 0, .string ⟨#[]⟩, .bool false, .bool false, .bool false], .string ⟨#[109]⟩]  V fun e w' => e = .returned (.int .i64 2) ∧ Below V.heap.size V w' := by
  have h9 := fwhy_any (some ⟨X, 0, none⟩) a 1 k [mF] [⟨p1, tM⟩] (pF ⟨#[113]⟩) tM V (h.ya hm) (pF_at V _) pF_light.2
  rw [why_alike [mF] (alike1 h.pe) rfl, kf_why1] at h9
  exact h9
theorem ka_why2 {V : World} {X : Nat} {a : Option Addr} {p1 : Pd} (h : PutA V a p1) (hm : MacL V (some ⟨X, 0, none⟩) [mF]) (k : Nat) : Calls Tryz.prog 6 #[.slice (some ⟨X, 0, none⟩) 1 1, .slice a 1 k, .agg #[.string ⟨#[113]⟩, .int .i64 600, .int .i64 0, .int .i64 0, .int .i64 1, .int .i64 0, .slice none 0 0, .slice none 0 0, .slice none 0 0, .slice none 0 0, .slice none 0 0, .slice none 0 0, .bool false, .slice none 0 0, .int .i64 0, .int .i64 0, .string ⟨#[]⟩, .bool false, .bool false, .bool false], .string ⟨#[120]⟩]  V fun e w' => e = .returned (.int .i64 1) ∧ Below V.heap.size V w' := by
  have h9 := fwhy_any (some ⟨X, 0, none⟩) a 1 k [mF] [⟨p1, tM⟩] (pF ⟨#[113]⟩) ⟨#[120]⟩ V (h.ya hm) (pF_at V _) pF_light.2
  rw [why_alike [mF] (alike1 h.pe) rfl, kf_why2] at h9
  exact h9
theorem ka_feas1 {V : World} {X : Nat} {a : Option Addr} {p1 : Pd} (h : PutA V a p1) (hm : MacL V (some ⟨X, 0, none⟩) [mF]) (k : Nat) : Calls Tryz.prog 13 #[.slice (some ⟨X, 0, none⟩) 1 1, .slice a 1 k]  V fun e w' => e = .returned (.bool true) ∧ Below V.heap.size V w' := by
  have h9 := feas_any (some ⟨X, 0, none⟩) a 1 k [mF] [⟨p1, tM⟩] V (h.ya hm)
  rw [feas_alike [mF] (alike1 h.pe), kf_feas1] at h9
  exact h9
/-- Both pods, put. -/
def PutB (V : World) (a : Option Addr) (p1 q1 : Pd) : Prop := BndL V a [⟨p1, tM⟩, ⟨q1, tM⟩] ∧ PodIn V p1 ∧ PodIn V q1 ∧ podE p1 = podE (pF ⟨#[112]⟩) ∧ podE q1 = podE (pF ⟨#[113]⟩)
theorem ka_put1 {V : World} {a : Option Addr} {p1 : Pd} (h : PutA V a p1) (k : Nat) : Calls Tryz.prog 19 #[.slice a 1 k, .agg #[.string ⟨#[113]⟩, .int .i64 600, .int .i64 0, .int .i64 0, .int .i64 1, .int .i64 0, .slice none 0 0, .slice none 0 0, .slice none 0 0, .slice none 0 0, .slice none 0 0, .slice none 0 0, .bool false, .slice none 0 0, .int .i64 0, .int .i64 0, .string ⟨#[]⟩, .bool false, .bool false, .bool false], .string ⟨#[109]⟩] V fun e w' => (∃ b k2 q1, e = .returned (.slice b 2 k2) ∧ PutB w' b p1 q1) ∧ Below V.heap.size V w' :=
  (put_any a k [⟨p1, tM⟩] (pF ⟨#[113]⟩) tM V h.bl (pF_at V _) pF_light.2 (by show 1 ≤ 1000; decide)).mono fun e w' h9 => by
    obtain ⟨⟨b, k2, p', e1, h1, h2, h3, h4, h5⟩, hb⟩ := h9
    have hbut : butL [⟨p1, tM⟩] (pF ⟨#[113]⟩).nm = [⟨p1, tM⟩] := by
      unfold butL
      rw [List.filter_eq_self]
      intro x hx
      obtain rfl : x = ⟨p1, tM⟩ := by simpa using hx
      unfold notNm
      dsimp only
      rw [nm_E h.pe]
      decide
    rw [hbut] at e1 h2
    exact ⟨⟨b, k2, p', e1, h2, h.pi.mono hb, h3, h.pe, h1⟩, hb⟩
theorem ka_feas2 {V : World} {X : Nat} {a : Option Addr} {p1 q1 : Pd} (h : PutB V a p1 q1) (hm : MacL V (some ⟨X, 0, none⟩) [mF]) (k : Nat) : Calls Tryz.prog 13 #[.slice (some ⟨X, 0, none⟩) 1 1, .slice a 2 k]  V fun e w' => e = .returned (.bool false) ∧ Below V.heap.size V w' := by
  obtain ⟨h1, h2, h3, h4, h5⟩ := h
  have h9 := feas_any (some ⟨X, 0, none⟩) a 1 k [mF] [⟨p1, tM⟩, ⟨q1, tM⟩] V (ya_one hm h1 (fun b hb => by
    simp only [List.mem_cons, List.not_mem_nil, or_false] at hb
    rcases hb with rfl | rfl
    · exact h2
    · exact h3) (by show 2 ≤ 1000; decide) (fun b hb => by
    simp only [List.mem_cons, List.not_mem_nil, or_false] at hb
    rcases hb with rfl | rfl
    · exact ⟨(light_E h4).trans pF_light.1, rfl⟩
    · exact ⟨(light_E h5).trans pF_light.2, rfl⟩))
  rw [feas_alike [mF] (alike2 h4 h5), kf_feas2] at h9
  exact h9
/-- What known has built first. -/
structure KF (w V : World) : Prop where
  ml : MacL V (some ⟨w.heap.size, 0, none⟩) [mF]
  p : Blk V (w.heap.size + 1) 31 [.string ⟨#[112]⟩, .int .i64 600, .int .i64 0, .int .i64 0, .int .i64 1, .int .i64 0, .slice none 0 0, .slice none 0 0, .slice none 0 0, .slice none 0 0, .slice none 0 0, .slice none 0 0, .bool false, .slice none 0 0, .int .i64 0, .int .i64 0, .string ⟨#[]⟩, .bool false, .bool false, .bool false]
  q : Blk V (w.heap.size + 2) 31 [.string ⟨#[113]⟩, .int .i64 600, .int .i64 0, .int .i64 0, .int .i64 1, .int .i64 0, .slice none 0 0, .slice none 0 0, .slice none 0 0, .slice none 0 0, .slice none 0 0, .slice none 0 0, .bool false, .slice none 0 0, .int .i64 0, .int .i64 0, .string ⟨#[]⟩, .bool false, .bool false, .bool false]
  bl : Below w.heap.size w V
theorem KF.mono {w V V' : World} (h : KF w V) (hb : Below V.heap.size V V') : KF w V' := ⟨h.ml.mono hb, h.p.below hb, h.q.below hb, h.bl.trans (hb.mono h.bl.size)⟩
theorem Blk.rng {V : World} {b : Nat} {t : TypeId} {cs : List Value} (h : Blk V b t cs) : V.rangeAt b 0 cs := fun j v hj => by rw [Nat.zero_add, h.cell]; exact hj
theorem mac_one (w : World) (t : TypeId) : MacL (w.alloc (.cells #[.string ⟨#[109]⟩, .string ⟨#[]⟩, .int .i64 1000, .int .i64 0, .int .i64 0, .int .i64 9, .int .i64 0, .slice none 0 0, .slice none 0 0, .bool true] t)) (some ⟨w.heap.size, 0, none⟩) [mF] := by
  have h9 := RowsAt.new (enc := mrow) (K := 10) (fun _ => rfl) w [mF] t
  exact h9
theorem ka_texts {V : World} {a : Option Addr} (h : TxtL V a [tM]) (k : Nat) (t : TypeId) : Calls Tryz.prog 8 #[.slice a 1 k, .slice (some ⟨V.heap.size, 0, none⟩) 1 1] (V.alloc (.cells #[.string ⟨#[109]⟩] t)) fun e w' => e = .returned (.bool true) ∧ Below (V.alloc (.cells #[.string ⟨#[109]⟩] t)).heap.size (V.alloc (.cells #[.string ⟨#[109]⟩] t)) w' := by
  have hb : Below V.heap.size V (V.alloc (.cells #[.string ⟨#[109]⟩] t)) := (Below.refl _ _).alloc (Nat.le_refl _) _
  have h9 := texts_any a (some ⟨V.heap.size, 0, none⟩) k 1 [tM] [tM] (V.alloc (.cells #[.string ⟨#[109]⟩] t)) (h.mono hb) (RowsAt.new scs_len V [tM] t) (by show 1 ≤ 1000000; decide) (by show 1 ≤ 1000000; decide)
  rw [decide_eq_true rfl] at h9
  exact h9
/-- What known has in the middle. -/
structure KS (w : World) (a : Option Addr) (p1 : Pd) (T : Nat) (V : World) : Prop where
  f : KF w V
  a : PutA V a p1
  t : Blk V T 41 [.int .i64 0, .int .i64 0, .int .i64 1, .int .i64 0, .int .i64 0, .int .i64 0, .int .i64 0, .int .i64 0, .int .i64 0]
theorem KS.mono {w V V' : World} {a : Option Addr} {p1 : Pd} {T : Nat} (h : KS w a p1 T V) (hb : Below V.heap.size V V') : KS w a p1 T V' := ⟨h.f.mono hb, h.a.mono hb, h.t.below hb⟩
set_option maxRecDepth 100000 in
set_option maxHeartbeats 8000000 in
theorem fknown_any (w : World) :
    Calls Tryz.prog 5 #[] w fun e w' => e = .returned (.bool true) ∧ Below w.heap.size w w' := by
  go_enter Tryz.func5, Tryz.ntmps5
  go_upto_region 2 with (fail)
  obtain ⟨W1, hW1⟩ : ∃ V, V = (w.alloc (.cells #[.string ⟨#[109]⟩, .string ⟨#[]⟩, .int .i64 1000, .int .i64 0, .int .i64 0, .int .i64 9, .int .i64 0, .slice none 0 0, .slice none 0 0, .bool true] 37)) := ⟨_, rfl⟩
  have HM1 := Lib.hid (show MacL W1 (some ⟨w.heap.size, 0, none⟩) [mF] by rw [hW1]; exact mac_one w _)
  have HB1 := Lib.hid (show Below w.heap.size w W1 by rw [hW1]; (repeat' (first | with_reducible exact Below.refl _ _ | with_reducible assumption | with_reducible refine Below.drew ?_ | with_reducible refine below_drewN' ?_ _ | with_reducible refine Below.alloc ?_ ?_ _ | with_reducible refine Below.setCell ?_ ?_ _ | with_reducible refine below_step (by assumption) ?_ ?_ | omega | (simp; done) | (simp; omega))))
  have Hs1 := Lib.hid (show W1.heap.size = w.heap.size + 1 by rw [hW1]; simp)
  rw [← hW1]
  clear hW1
  go_upto_region 3 with ((with_reducible refine at_store (ty := 31) ?_); refine store_new rfl 31 (.tmp 2) (.tmp 10) rfl _ _ rfl rfl (by kernel_rfl) rfl (List.all_eq_true.2 (prow_one (pF ⟨#[112]⟩))) rfl ?_)
  (try simp only [Hs1.out])
  obtain ⟨W2, hW2⟩ : ∃ V, V = (W1.alloc (.cells #[.string ⟨#[112]⟩, .int .i64 600, .int .i64 0, .int .i64 0, .int .i64 1, .int .i64 0, .slice none 0 0, .slice none 0 0, .slice none 0 0, .slice none 0 0, .slice none 0 0, .slice none 0 0, .bool false, .slice none 0 0, .int .i64 0, .int .i64 0, .string ⟨#[]⟩, .bool false, .bool false, .bool false] 31)) := ⟨_, rfl⟩
  have HM2 := Lib.hid (show MacL W2 (some ⟨w.heap.size, 0, none⟩) [mF] by rw [hW2]; exact HM1.out.mono ((Below.refl _ _).alloc (Nat.le_refl _) _))
  have HP2 := Lib.hid (show Blk W2 (w.heap.size + 1) 31 [.string ⟨#[112]⟩, .int .i64 600, .int .i64 0, .int .i64 0, .int .i64 1, .int .i64 0, .slice none 0 0, .slice none 0 0, .slice none 0 0, .slice none 0 0, .slice none 0 0, .slice none 0 0, .bool false, .slice none 0 0, .int .i64 0, .int .i64 0, .string ⟨#[]⟩, .bool false, .bool false, .bool false] by
    rw [hW2, ← Hs1.out]
    exact Blk.new W1 31 [.string ⟨#[112]⟩, .int .i64 600, .int .i64 0, .int .i64 0, .int .i64 1, .int .i64 0, .slice none 0 0, .slice none 0 0, .slice none 0 0, .slice none 0 0, .slice none 0 0, .slice none 0 0, .bool false, .slice none 0 0, .int .i64 0, .int .i64 0, .string ⟨#[]⟩, .bool false, .bool false, .bool false])
  have HB2 := Lib.hid (show Below w.heap.size w W2 by rw [hW2]; exact HB1.out.alloc HB1.out.size _)
  have Hs2 := Lib.hid (show W2.heap.size = w.heap.size + 2 by rw [hW2, World.size_alloc, Hs1.out])
  rw [← hW2]
  clear hW2
  go_upto_region 4 with ((with_reducible refine at_store (ty := 31) ?_); refine store_new rfl 31 (.tmp 3) (.tmp 12) rfl _ _ rfl rfl (by kernel_rfl) rfl (List.all_eq_true.2 (prow_one (pF ⟨#[113]⟩))) rfl ?_)
  (try simp only [Hs2.out])
  obtain ⟨W3, hW3⟩ : ∃ V, V = (W2.alloc (.cells #[.string ⟨#[113]⟩, .int .i64 600, .int .i64 0, .int .i64 0, .int .i64 1, .int .i64 0, .slice none 0 0, .slice none 0 0, .slice none 0 0, .slice none 0 0, .slice none 0 0, .slice none 0 0, .bool false, .slice none 0 0, .int .i64 0, .int .i64 0, .string ⟨#[]⟩, .bool false, .bool false, .bool false] 31)) := ⟨_, rfl⟩
  have H0 := Lib.hid (show KF w W3 by
    rw [hW3]
    have hb : Below W2.heap.size W2 (W2.alloc (.cells #[.string ⟨#[113]⟩, .int .i64 600, .int .i64 0, .int .i64 0, .int .i64 1, .int .i64 0, .slice none 0 0, .slice none 0 0, .slice none 0 0, .slice none 0 0, .slice none 0 0, .slice none 0 0, .bool false, .slice none 0 0, .int .i64 0, .int .i64 0, .string ⟨#[]⟩, .bool false, .bool false, .bool false] 31)) := (Below.refl _ _).alloc (Nat.le_refl _) _
    refine ⟨HM2.out.mono hb, HP2.out.below hb, ?_, HB2.out.trans (hb.mono HB2.out.size)⟩
    rw [← Hs2.out]
    exact Blk.new W2 31 [.string ⟨#[113]⟩, .int .i64 600, .int .i64 0, .int .i64 0, .int .i64 1, .int .i64 0, .slice none 0 0, .slice none 0 0, .slice none 0 0, .slice none 0 0, .slice none 0 0, .slice none 0 0, .bool false, .slice none 0 0, .int .i64 0, .int .i64 0, .string ⟨#[]⟩, .bool false, .bool false, .bool false])
  rw [← hW3]
  clear hW3 HM1 HB1 Hs1 HM2 HP2 HB2 Hs2
  go_upto_region 5 with (first
    | ((with_reducible refine at_load (ty := 31) ?_); refine load_cells rfl 31 (.tmp 2) rfl (w.heap.size + 1) 0 rfl [.string ⟨#[112]⟩, .int .i64 600, .int .i64 0, .int .i64 0, .int .i64 1, .int .i64 0, .slice none 0 0, .slice none 0 0, .slice none 0 0, .slice none 0 0, .slice none 0 0, .slice none 0 0, .bool false, .slice none 0 0, .int .i64 0, .int .i64 0, .string ⟨#[]⟩, .bool false, .bool false, .bool false] _ Tryz.underlying31 rfl (by kernel_rfl) H0.out.p.rng ?_)
    | (go_at_call 19; (with_reducible refine (ka_put0 _).mono ?_); rintro e w4 ⟨⟨a, k, p1, rfl, hpa⟩, hb⟩; have H4 := Lib.hid (H0.out.mono hb); have HA4 := Lib.hid hpa; clear hb hpa))
  clear H0
  go_upto_region 6 with (first
    | ((with_reducible refine at_load (ty := 31) ?_); refine load_cells rfl 31 (.tmp 3) rfl (w.heap.size + 2) 0 rfl [.string ⟨#[113]⟩, .int .i64 600, .int .i64 0, .int .i64 0, .int .i64 1, .int .i64 0, .slice none 0 0, .slice none 0 0, .slice none 0 0, .slice none 0 0, .slice none 0 0, .slice none 0 0, .bool false, .slice none 0 0, .int .i64 0, .int .i64 0, .string ⟨#[]⟩, .bool false, .bool false, .bool false] _ Tryz.underlying31 rfl (by kernel_rfl) H4.out.q.rng ?_)
    | (go_at_call 11; (with_reducible refine (ka_tally HA4.out H4.out.ml _).mono ?_); rintro e w5 ⟨rfl, hb⟩; have H5 := Lib.hid (H4.out.mono hb); have HA5 := Lib.hid (HA4.out.mono hb); clear hb)
    | ((with_reducible refine at_store (ty := 41) ?_); refine store_new rfl 41 (.tmp 5) (.tmp 18) rfl _ _ rfl rfl (by kernel_rfl) rfl (by rfl) rfl ?_))
  obtain ⟨T, hT⟩ : ∃ T, w5.heap.size = T := ⟨_, rfl⟩
  rw [hT]
  obtain ⟨V6, hV6⟩ : ∃ V, V = w5.alloc (.cells #[.int .i64 0, .int .i64 0, .int .i64 1, .int .i64 0, .int .i64 0, .int .i64 0, .int .i64 0, .int .i64 0, .int .i64 0] 41) := ⟨_, rfl⟩
  have H := Lib.hid (show KS w a p1 T V6 by
    rw [hV6, ← hT]
    have hb : Below w5.heap.size w5 (w5.alloc (.cells #[.int .i64 0, .int .i64 0, .int .i64 1, .int .i64 0, .int .i64 0, .int .i64 0, .int .i64 0, .int .i64 0, .int .i64 0] 41)) := (Below.refl _ _).alloc (Nat.le_refl _) _
    exact ⟨H5.out.mono hb, HA5.out.mono hb, Blk.new w5 41 _⟩)
  rw [← hV6]
  clear hV6 hT H4 HA4 H5 HA5
  go_step
  (try dsimp only [List.append])
  go_wp2_with (first
    | ((with_reducible refine at_load (ty := 31) ?_); refine load_cells rfl 31 (.tmp 2) rfl (w.heap.size + 1) 0 rfl [.string ⟨#[112]⟩, .int .i64 600, .int .i64 0, .int .i64 0, .int .i64 1, .int .i64 0, .slice none 0 0, .slice none 0 0, .slice none 0 0, .slice none 0 0, .slice none 0 0, .slice none 0 0, .bool false, .slice none 0 0, .int .i64 0, .int .i64 0, .string ⟨#[]⟩, .bool false, .bool false, .bool false] _ Tryz.underlying31 rfl (by kernel_rfl) H.out.f.p.rng ?_)
    | ((with_reducible refine at_load (ty := 31) ?_); refine load_cells rfl 31 (.tmp 3) rfl (w.heap.size + 2) 0 rfl [.string ⟨#[113]⟩, .int .i64 600, .int .i64 0, .int .i64 0, .int .i64 1, .int .i64 0, .slice none 0 0, .slice none 0 0, .slice none 0 0, .slice none 0 0, .slice none 0 0, .slice none 0 0, .bool false, .slice none 0 0, .int .i64 0, .int .i64 0, .string ⟨#[]⟩, .bool false, .bool false, .bool false] _ Tryz.underlying31 rfl (by kernel_rfl) H.out.f.q.rng ?_)
    | (go_at_call 9; (with_reducible refine (ka_where1 H.out.f.ml).mono ?_); rintro e w6 ⟨⟨a6, k6, rfl, ht6⟩, hb⟩; have HT6 := Lib.hid ht6; have HD := Lib.hid (H.out.mono hb); clear H hb ht6; have H := HD; clear HD)
    | (go_at_call 8; (with_reducible refine (ka_texts HT6.out _ _).mono ?_); rintro e w7 ⟨rfl, hb⟩; have HD := Lib.hid (H.out.mono (((Below.refl _ _).alloc (Nat.le_refl _) _).trans (hb.mono (by simp)))); clear H hb HT6; have H := HD; clear HD)
    | (go_at_call 9; (with_reducible refine (ka_where2 H.out.a H.out.f.ml _).mono ?_); rintro e w8 ⟨⟨a8, k8, rfl⟩, hb⟩; have HD := Lib.hid (H.out.mono hb); clear H hb; have H := HD; clear HD; have c2 : w8.cell? ⟨T, 2, none⟩ = some (.int .i64 1) := H.out.t.cell 2)
    | (go_at_call 6; (first | (with_reducible refine (ka_why1 H.out.a H.out.f.ml _).mono ?_) | (with_reducible refine (ka_why2 H.out.a H.out.f.ml _).mono ?_)); rintro e w9 ⟨rfl, hb⟩; have HD := Lib.hid (H.out.mono hb); clear H hb; have H := HD; clear HD)
    | (go_at_call 13; (with_reducible refine (ka_feas2 HPB.out H.out.f.ml _).mono ?_); rintro e w13 ⟨rfl, hb⟩; have HD := Lib.hid (H.out.mono hb); clear H hb; have H := HD; clear HD)
    | (go_at_call 13; (with_reducible refine (ka_feas1 H.out.a H.out.f.ml _).mono ?_); rintro e w11 ⟨rfl, hb⟩; have HD := Lib.hid (H.out.mono hb); clear H hb; have H := HD; clear HD)
    | (go_at_call 19; (with_reducible refine (ka_put1 H.out.a _).mono ?_); rintro e w12 ⟨⟨b12, k12, q1, rfl, hpb⟩, hb⟩; have HPB := Lib.hid hpb; have HD := Lib.hid (H.out.mono hb); clear H hb hpb; have H := HD; clear HD))
  go_ret
  exact ⟨rfl, H.out.f.bl⟩
end Go.Proofs.YthbpnfpalcgfeaaGreat
