/-
  A state whose lists are the call's own; the contract of permit.State.copied.
-/
import Derived.Test.YtmkdfcggjlhcpaaPe6
namespace Go.Proofs.Ytmkdfcggjlhcpaa
open Go.RowKit
set_option linter.unusedVariables false
set_option linter.unusedSimpArgs false

structure SOwn (B : Nat) (s : St) (w : World) : Prop where
  g : OwnL grow 15 B 49 s.C (.slice s.ga s.C.length s.gk) w
  m : ∀ x ∈ s.C, MO w B x.like
  t : OwnL pcs 1 B 3 s.T (.slice s.ta s.T.length s.tk) w
  i : OwnL irow 5 B 51 s.L (.slice s.ia s.L.length s.ik) w
  r : OwnL scs 1 B 9 s.R (.slice s.ra s.R.length s.rk) w
theorem SOwn.mono {B : Nat} {s : St} {w w' : World} (h : SOwn B s w) (hb : Below w.heap.size w w') : SOwn B s w' :=
  ⟨own_kept h.g hb, fun x hx => (h.m x hx).kept hb, own_kept h.t hb, own_kept h.i hb, own_kept h.r hb⟩
theorem SOwn.less {B B' : Nat} {s : St} {w : World} (h : SOwn B s w) (hb : B' ≤ B) : SOwn B' s w :=
  ⟨OwnL.mono h.g hb, fun x hx => (h.m x hx).less hb, OwnL.mono h.t hb, OwnL.mono h.i hb, OwnL.mono h.r hb⟩
theorem own_out {w : World} {B : Nat} {v : Value} {n k : Nat} {e : TypeId} {xs : List Value} (h : w.ownsRow B e k v n xs) {q : Nat} (hq : q < B) (i : Nat) (u : Value) : (w.setCell ⟨q, i, none⟩ u).ownsRow B e k v n xs :=
  own_same h fun g e => Below.heap_setCell w ⟨q, i, none⟩ u g (by have := (own_lt h e).1; show g ≠ q; omega)
/-- Copies of a state. -/
structure PAl (s s' : St) : Prop where
  c : s'.C.map nrm = s.C.map nrm
  t : s'.T = s.T
  l : s'.L = s.L
  r : s'.R = s.R
  c0 : s'.c0 = s.c0
  c1 : s'.c1 = s.c1
  c2 : s'.c2 = s.c2
  un : s'.un = s.un
  sh : s'.sh = s.sh

set_option maxRecDepth 100000 in
set_option maxHeartbeats 8000000 in
theorem copied_any (s : St) (w : World) (hI : StIn w s) (hO : StOk s) :
    Calls Try.prog 16 #[.agg #[.slice s.ga s.C.length s.gk, .slice s.ta s.T.length s.tk, .slice s.ia s.L.length s.ik, .int .i64 s.c0, .int .i64 s.c1, .int .i64 s.c2, .slice s.ra s.R.length s.rk, .int .i64 s.un, .int .i64 s.sh]] w fun e w' => (∃ s', e = .returned (.agg #[.slice s'.ga s'.C.length s'.gk, .slice s'.ta s'.T.length s'.tk, .slice s'.ia s'.L.length s'.ik, .int .i64 s'.c0, .int .i64 s'.c1, .int .i64 s'.c2, .slice s'.ra s'.R.length s'.rk, .int .i64 s'.un, .int .i64 s'.sh]) ∧ SOwn w.heap.size s' w' ∧ PAl s s') ∧ Below w.heap.size w w' := by
  have HZ0 := Lib.hid (fun (o : Obj) => World.size_alloc w o)
  have hg16 := hO.g16
  have hlt := hO.lt
  have hlb := hO.lb
  have hrb := hO.rb
  have HG := Lib.hid (fun V (hV : Below w.heap.size w V) => groups_any s.ga s.gk s.C V (hI.g.mono hV) (fun g hg => (hI.m g hg).mono hV) hO.gl (by omega))
  have HT := Lib.hid (fun V (hV : Below w.heap.size w V) => cloneint_any s.ta s.tk s.T V (hI.t.mono hV) hI.tn (by omega))
  have HL := Lib.hid (fun V (hV : Below w.heap.size w V) => clonei_any s.ia s.ik s.L V (hI.i.mono hV) hI.iN (by omega))
  have HR := Lib.hid (fun V (hV : Below w.heap.size w V) => clonestr_any s.ra s.rk s.R V (hI.r.mono hV) hI.rn (by omega))
  clear hI hO hg16 hlt hlb hrb
  obtain ⟨ga, C, gk, ta, T, tk, ia, L, ik, z0, z1, z2, ra, R, rk, un, sh⟩ := s
  dsimp only at HG HT HL HR ⊢
  go_enter Try.func16, Try.ntmps16
  go_wp2_with (first
    | (go_at_call 32; (with_reducible refine (HG.out _ (by (repeat' (first | with_reducible exact Below.refl _ _ | with_reducible assumption | with_reducible refine Below.drew ?_ | with_reducible refine below_drewN' ?_ _ | with_reducible refine Below.alloc ?_ ?_ _ | with_reducible refine Below.setCell ?_ ?_ _ | with_reducible refine below_step (by assumption) ?_ ?_ | omega | (simp; done) | (simp; omega))))).mono ?_); rintro e w1 ⟨⟨v1, C1, rfl, hC, ho1, hm1⟩, hb1⟩; have HB1 := Lib.hid (show Below w.heap.size w w1 by (repeat' (first | with_reducible exact Below.refl _ _ | with_reducible assumption | with_reducible refine Below.drew ?_ | with_reducible refine below_drewN' ?_ _ | with_reducible refine Below.alloc ?_ ?_ _ | with_reducible refine Below.setCell ?_ ?_ _ | with_reducible refine below_step (by assumption) ?_ ?_ | omega | (simp; done) | (simp; omega)))); have HX1 := Lib.hid (((Blk.new w 33 [.slice ga C.length gk, .slice ta T.length tk, .slice ia L.length ik, .int .i64 z0, .int .i64 z1, .int .i64 z2, .slice ra R.length rk, .int .i64 un, .int .i64 sh]).alloc _).below hb1); have HY1 := Lib.hid ((Blk.new (w.alloc _) 33 [.slice none 0 0, .slice none 0 0, .slice none 0 0, .int .i64 0, .int .i64 0, .int .i64 0, .slice none 0 0, .int .i64 0, .int .i64 0]).below hb1); rw [HZ0.out] at HY1; have hz1 := hb1.size; (try simp at hz1); have HC1 := Lib.hid hC; have HG1 := Lib.hid (show OwnL grow 15 (w.heap.size + 2) 49 C1 v1 w1 from OwnL.mono ho1 (by simp)); have HM1 := Lib.hid (show ∀ g ∈ C1, MO w1 (w.heap.size + 2) g.like from fun g hg => (hm1 g hg).less (by simp)); obtain ⟨a1, k1, rfl, -, -⟩ := OwnL.isL grow_len (by decide) ho1; clear hb1 hC ho1 hm1; have hx1 : w.heap.size < w1.heap.size := (by omega); have x0 := HX1.out.cell 0; have f0 := HX1.out.frozen 0; have y1 := (fun v => (HX1.out.set 0 v).cell 1); dsimp only [List.getElem?_cons_zero, List.getElem?_cons_succ, List.set] at x0 y1)
    | (go_at_call 33; (with_reducible refine (HT.out _ (HB1.out.setCell (Nat.le_refl _) _)).mono ?_); rintro e w2 ⟨⟨v2, rfl, ho2⟩, hb2⟩; have HB2 := Lib.hid ((HB1.out.setCell (Nat.le_refl _) _).trans (hb2.mono (HB1.out.setCell (Nat.le_refl _) _).size)); have HX2 := Lib.hid ((HX1.out.set 0 _).below hb2); have HY2 := Lib.hid ((HY1.out.other (Nat.succ_ne_self _) _).below hb2); have hz2 := hb2.size; (try simp at hz2); have HG2 := Lib.hid (own_kept (own_out HG1.out (by omega) 0 _) hb2); have HM2 := Lib.hid (show ∀ g ∈ C1, MO w2 (w.heap.size + 2) g.like from fun g hg => ⟨own_kept (own_out (HM1.out g hg).l (by omega) 0 _) hb2, own_kept (own_out (HM1.out g hg).t (by omega) 0 _) hb2⟩); have HT2 := Lib.hid (show OwnL pcs 1 (w.heap.size + 2) 3 T v2 w2 from OwnL.mono ho2 (by simp; omega)); obtain ⟨a2, k2, rfl, -, -⟩ := OwnL.isL pcs_len (by decide) ho2; clear hb2 ho2 x0 f0 y1; have hx2 : w.heap.size < w2.heap.size := (by omega); have x1 := HX2.out.cell 1; have f1 := HX2.out.frozen 1; have y2 := (fun v => (HX2.out.set 1 v).cell 2); dsimp only [List.getElem?_cons_zero, List.getElem?_cons_succ, List.set] at x1 y2)
    | (go_at_call 34; (with_reducible refine (HL.out _ (HB2.out.setCell (Nat.le_refl _) _)).mono ?_); rintro e w3 ⟨⟨v3, rfl, ho3⟩, hb3⟩; have HB3 := Lib.hid ((HB2.out.setCell (Nat.le_refl _) _).trans (hb3.mono (HB2.out.setCell (Nat.le_refl _) _).size)); have HX3 := Lib.hid ((HX2.out.set 1 _).below hb3); have HY3 := Lib.hid ((HY2.out.other (Nat.succ_ne_self _) _).below hb3); have hz3 := hb3.size; (try simp at hz3); have HG3 := Lib.hid (own_kept (own_out HG2.out (by omega) 1 _) hb3); have HM3 := Lib.hid (show ∀ g ∈ C1, MO w3 (w.heap.size + 2) g.like from fun g hg => ⟨own_kept (own_out (HM2.out g hg).l (by omega) 1 _) hb3, own_kept (own_out (HM2.out g hg).t (by omega) 1 _) hb3⟩); have HT3 := Lib.hid (own_kept (own_out HT2.out (by omega) 1 _) hb3); have HL3 := Lib.hid (show OwnL irow 5 (w.heap.size + 2) 51 L v3 w3 from OwnL.mono ho3 (by simp; omega)); obtain ⟨a3, k3, rfl, -, -⟩ := OwnL.isL irow_len (by decide) ho3; clear hb3 ho3 x1 f1 y2; have hx3 : w.heap.size < w3.heap.size := (by omega); have x2 := HX3.out.cell 2; have f2 := HX3.out.frozen 2; have y6 := (fun v => (HX3.out.set 2 v).cell 6); dsimp only [List.getElem?_cons_zero, List.getElem?_cons_succ, List.set] at x2 y6)
    | (go_at_call 35; (with_reducible refine (HR.out _ (HB3.out.setCell (Nat.le_refl _) _)).mono ?_); rintro e w4 ⟨⟨v4, rfl, ho4⟩, hb4⟩; have HB4 := Lib.hid ((HB3.out.setCell (Nat.le_refl _) _).trans (hb4.mono (HB3.out.setCell (Nat.le_refl _) _).size)); have HX4 := Lib.hid ((HX3.out.set 2 _).below hb4); have HY4 := Lib.hid ((HY3.out.other (Nat.succ_ne_self _) _).below hb4); have hz4 := hb4.size; (try simp at hz4); have HG4 := Lib.hid (own_kept (own_out HG3.out (by omega) 2 _) hb4); have HM4 := Lib.hid (show ∀ g ∈ C1, MO w4 (w.heap.size + 2) g.like from fun g hg => ⟨own_kept (own_out (HM3.out g hg).l (by omega) 2 _) hb4, own_kept (own_out (HM3.out g hg).t (by omega) 2 _) hb4⟩); have HT4 := Lib.hid (own_kept (own_out HT3.out (by omega) 2 _) hb4); have HL4 := Lib.hid (own_kept (own_out HL3.out (by omega) 2 _) hb4); have HR4 := Lib.hid (show OwnL scs 1 (w.heap.size + 2) 9 R v4 w4 from OwnL.mono ho4 (by simp; omega)); obtain ⟨a4, k4, rfl, -, -⟩ := OwnL.isL scs_len (by decide) ho4; clear hb4 ho4 x2 f2 y6; have hx4 : w.heap.size < w4.heap.size := (by omega); have x6 := HX4.out.cell 6; have f6 := HX4.out.frozen 6; dsimp only [List.getElem?_cons_zero, List.getElem?_cons_succ, List.set] at x6)
    | ((with_reducible refine at_load (ty := 33) ?_); refine load_cells rfl 33 (.tmp 1) rfl w.heap.size 0 rfl [.slice a1 C1.length k1, .slice a2 T.length k2, .slice a3 L.length k3, .int .i64 z0, .int .i64 z1, .int .i64 z2, .slice a4 R.length k4, .int .i64 un, .int .i64 sh] _ Try.underlying33 rfl (by kernel_rfl) ((HX4.out.set 6 _).range 0 [.slice a1 C1.length k1, .slice a2 T.length k2, .slice a3 L.length k3, .int .i64 z0, .int .i64 z1, .int .i64 z2, .slice a4 R.length k4, .int .i64 un, .int .i64 sh] rfl) ?_)
    | ((with_reducible refine at_store (ty := 33) ?_); refine wpList_store_mid rfl 33 (.tmp 2) (.tmp 19) rfl (w.heap.size + 1) 0 _ rfl rfl ((HY4.out.other (Nat.succ_ne_self _) _).there 0 9 (Nat.le_of_ble_eq_true rfl)) (by kernel_rfl) (by rw [← Array.all_toList]; rfl) ?_; obtain ⟨W5, hW5⟩ : ∃ W5, W5 = (w4.setCell ⟨w.heap.size, 6, none⟩ (.slice a4 R.length k4)).setCells (w.heap.size + 1) 0 [.slice a1 C1.length k1, .slice a2 T.length k2, .slice a3 L.length k3, .int .i64 z0, .int .i64 z1, .int .i64 z2, .slice a4 R.length k4, .int .i64 un, .int .i64 sh] := ⟨_, rfl⟩; (show wpList _ _ _ _ _ ((w4.setCell ⟨w.heap.size, 6, none⟩ (.slice a4 R.length k4)).setCells (w.heap.size + 1) 0 [.slice a1 C1.length k1, .slice a2 T.length k2, .slice a3 L.length k3, .int .i64 z0, .int .i64 z1, .int .i64 z2, .slice a4 R.length k4, .int .i64 un, .int .i64 sh])); rw [← hW5]; have HO5 := Lib.hid (show Only [w.heap.size, w.heap.size + 1] w4 W5 from by rw [hW5]; exact Only.setCells (.inl (by simp)) ((Only.refl _ _).setCell (.inl (by simp)) _) _ _); have HY5 := Lib.hid (show Blk W5 (w.heap.size + 1) 33 [.slice a1 C1.length k1, .slice a2 T.length k2, .slice a3 L.length k3, .int .i64 z0, .int .i64 z1, .int .i64 z2, .slice a4 R.length k4, .int .i64 un, .int .i64 sh] from by rw [hW5]; exact (HY4.out.other (Nat.succ_ne_self _) _).setCells 0 _); clear hW5))
  have c0 := HY5.out.cell 0
  have c1 := HY5.out.cell 1
  have c2 := HY5.out.cell 2
  have c3 := HY5.out.cell 3
  have c4 := HY5.out.cell 4
  have c5 := HY5.out.cell 5
  have c6 := HY5.out.cell 6
  have c7 := HY5.out.cell 7
  have c8 := HY5.out.cell 8
  dsimp only [List.getElem?_cons_zero, List.getElem?_cons_succ] at c0 c1 c2 c3 c4 c5 c6 c7 c8
  have hk : ∀ {v : Value} {n k : Nat} {e : TypeId} {xs : List Value}, w4.ownsRow (w.heap.size + 2) e k v n xs → W5.ownsRow (w.heap.size + 2) e k v n xs := fun h =>
    own_same h fun g e => HO5.out.block g (own_lt h e).2 fun hh => by
      have := (own_lt h e).1
      simp at hh
      omega
  refine bodyPost_ret (v := .agg #[.slice a1 C1.length k1, .slice a2 T.length k2, .slice a3 L.length k3, .int .i64 z0, .int .i64 z1, .int .i64 z2, .slice a4 R.length k4, .int .i64 un, .int .i64 sh]) (by simp [results, Try.results16, go_sem, *]) rfl ⟨⟨⟨a1, C1, k1, a2, T, k2, a3, L, k3, z0, z1, z2, a4, R, k4, un, sh⟩, rfl, SOwn.less (B := w.heap.size + 2) ⟨hk HG4.out, fun g hg => ⟨hk (HM4.out g hg).l, hk (HM4.out g hg).t⟩, hk HT4.out, hk HL4.out, hk HR4.out⟩ (by omega), ⟨HC1.out, rfl, rfl, rfl, rfl, rfl, rfl, rfl, rfl⟩⟩, HO5.out.below HB4.out (by omega) (by simp)⟩
end Go.Proofs.Ytmkdfcggjlhcpaa
