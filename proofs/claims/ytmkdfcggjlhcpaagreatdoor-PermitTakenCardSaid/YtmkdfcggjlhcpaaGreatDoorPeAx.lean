/-
  The contract of permit.After.
-/
import Derived.Test.YtmkdfcggjlhcpaaGreatDoorPe9x
namespace Go.Proofs.YtmkdfcggjlhcpaaGreatDoor
open Go.RowKit
set_option linter.unusedVariables false
set_option linter.unusedSimpArgs false
theorem SOwn.only {B : Nat} {s : St} {w w' : World} {S : List Nat} (h : SOwn B s w) (ho : Only S w w') (hS : ∀ k ∈ S, k < B) : SOwn B s w' := by
  have N : ∀ {v : Value} {n k : Nat} {e : TypeId} {xs : List Value}, w.ownsRow B e k v n xs → w'.ownsRow B e k v n xs := fun h =>
    own_same h fun g e => ho.block g (own_lt h e).2 fun hh => by
      have := hS g hh
      have := (own_lt h e).1
      omega
  exact ⟨N h.g, fun x hx => ⟨N (h.m x hx).l, N (h.m x hx).t⟩, N h.t, N h.i, N h.r⟩
def AftR (s : St) (what nm : ByteArray) (n : Int) (w : World) (e : Ending) (w' : World) : Prop :=
  (∃ b, b = bX s nm n ∧ ((∃ z, z ≠ 0 ∧ whyP s what nm n b = z ∧ e = .returned (.tuple #[.agg #[.slice none 0 0, .slice none 0 0, .slice none 0 0, .int .i64 0, .int .i64 0, .int .i64 0, .slice none 0 0, .int .i64 0, .int .i64 0], .int .i64 z])) ∨
    (whyP s what nm n b = 0 ∧ ∃ s', e = .returned (.tuple #[.agg #[.slice s'.ga s'.C.length s'.gk, .slice s'.ta s'.T.length s'.tk, .slice s'.ia s'.L.length s'.ik, .int .i64 s'.c0, .int .i64 s'.c1, .int .i64 s'.c2, .slice s'.ra s'.R.length s'.rk, .int .i64 s'.un, .int .i64 s'.sh], .int .i64 0]) ∧ SOwn w.heap.size s' w' ∧ PAl (aft s what nm n) s'))) ∧ Below w.heap.size w w'
set_option maxRecDepth 100000 in
set_option maxHeartbeats 8000000 in
theorem after_any (s : St) (what nm : ByteArray) (n : Int) (w : World) (hI : StIn w s) (hO : StOk s) (hn0 : -9223372036854775808 ≤ n) (hn1 : n ≤ 9223372036854775807) :
    Calls Tryz.prog 17 #[.agg #[.slice s.ga s.C.length s.gk, .slice s.ta s.T.length s.tk, .slice s.ia s.L.length s.ik, .int .i64 s.c0, .int .i64 s.c1, .int .i64 s.c2, .slice s.ra s.R.length s.rk, .int .i64 s.un, .int .i64 s.sh], .agg #[.string what, .string nm, .int .i64 n]] w (AftR s what nm n w) := by
  have HZ0 := Lib.hid (fun (o : Obj) => World.size_alloc w o)
  have HZ1 := Lib.hid (fun (o o' : Obj) => World.size_alloc (w.alloc o) o')
  have HO := Lib.hid hO
  have HI := Lib.hid hI
  have HWy := Lib.hid (fun V (hV : Below w.heap.size w V) => why_any s what nm n V (hI.mono hV) hO hn0 hn1)
  have HCp := Lib.hid (fun V (hV : Below w.heap.size w V) => copied_any s V (hI.mono hV) hO)
  clear hI hO
  go_enter Tryz.func17, Tryz.ntmps17
  go_wp2_with (first
    | (go_at_call 24; (with_reducible refine (HWy.out _ (by (repeat' (first | with_reducible exact Below.refl _ _ | with_reducible assumption | with_reducible refine Below.drew ?_ | with_reducible refine below_drewN' ?_ _ | with_reducible refine Below.alloc ?_ ?_ _ | with_reducible refine Below.setCell ?_ ?_ _ | with_reducible refine below_step (by assumption) ?_ ?_ | omega | (simp; done) | (simp; omega))))).mono ?_); rintro e w1 ⟨⟨b, rfl, hbb⟩, hb1⟩; have HB1 := Lib.hid (show Below w.heap.size w w1 by (repeat' (first | with_reducible exact Below.refl _ _ | with_reducible assumption | with_reducible refine Below.drew ?_ | with_reducible refine below_drewN' ?_ _ | with_reducible refine Below.alloc ?_ ?_ _ | with_reducible refine Below.setCell ?_ ?_ _ | with_reducible refine below_step (by assumption) ?_ ?_ | omega | (simp; done) | (simp; omega)))); have HS1 := Lib.hid ((((Blk.new w 52 [.slice s.ga s.C.length s.gk, .slice s.ta s.T.length s.tk, .slice s.ia s.L.length s.ik, .int .i64 s.c0, .int .i64 s.c1, .int .i64 s.c2, .slice s.ra s.R.length s.rk, .int .i64 s.un, .int .i64 s.sh]).alloc _).alloc _).below hb1); have HC1 := Lib.hid (((Blk.new (w.alloc _) 59 [.string what, .string nm, .int .i64 n]).alloc _).below hb1); have HR1 := Lib.hid ((Blk.new ((w.alloc _).alloc _) 52 [.slice none 0 0, .slice none 0 0, .slice none 0 0, .int .i64 0, .int .i64 0, .int .i64 0, .slice none 0 0, .int .i64 0, .int .i64 0]).below hb1); rw [HZ0.out] at HC1; rw [HZ1.out, HZ0.out] at HR1; have hz1 := hb1.size; (try simp at hz1); have hy1 : w.heap.size < w1.heap.size := (by omega); have hx1 : w.heap.size + 1 < w1.heap.size := (by omega); have hv1 : w.heap.size + 1 + 1 < w1.heap.size := (by omega); have Hbb := Lib.hid hbb; obtain ⟨z, hz⟩ : ∃ z, whyP s what nm n b = z := ⟨_, rfl⟩; rw [hz]; have Hz := Lib.hid hz; clear hb1 hbb hz; have s0 := HS1.out.cell 0; have s1 := HS1.out.cell 1; have s2 := HS1.out.cell 2; have s3 := HS1.out.cell 3; have s4 := HS1.out.cell 4; have s5 := HS1.out.cell 5; have s6 := HS1.out.cell 6; have s7 := HS1.out.cell 7; have s8 := HS1.out.cell 8; have r0 := HC1.out.cell 0; have r1 := HC1.out.cell 1; have r2 := HC1.out.cell 2; dsimp only [List.getElem?_cons_zero, List.getElem?_cons_succ] at s0 s1 s2 s3 s4 s5 s6 s7 s8 r0 r1 r2; by_cases h0 : z = 0)
    | ((with_reducible refine at_store (ty := 52) ?_); refine wpList_store_mid rfl 52 (.tmp 4) (.tmp 17) rfl (w.heap.size + 1 + 1) 0 _ rfl rfl (HR1.out.there 0 9 (Nat.le_of_ble_eq_true rfl)) (by kernel_rfl) (by rw [← Array.all_toList]; rfl) ?_; obtain ⟨W5, hW5⟩ : ∃ W5, W5 = w1.setCells (w.heap.size + 1 + 1) 0 [.slice none 0 0, .slice none 0 0, .slice none 0 0, .int .i64 0, .int .i64 0, .int .i64 0, .slice none 0 0, .int .i64 0, .int .i64 0] := ⟨_, rfl⟩; (show wpList _ _ _ _ _ (w1.setCells (w.heap.size + 1 + 1) 0 [.slice none 0 0, .slice none 0 0, .slice none 0 0, .int .i64 0, .int .i64 0, .int .i64 0, .slice none 0 0, .int .i64 0, .int .i64 0])); rw [← hW5]; have HO5 := Lib.hid (show Only [w.heap.size + 1 + 1] w1 W5 from by rw [hW5]; exact Only.setCells (.inl (by simp)) (Only.refl _ _) _ _); have HY5 := Lib.hid (show Blk W5 (w.heap.size + 1 + 1) 52 [.slice none 0 0, .slice none 0 0, .slice none 0 0, .int .i64 0, .int .i64 0, .int .i64 0, .slice none 0 0, .int .i64 0, .int .i64 0] from by rw [hW5]; exact HR1.out.setCells 0 _); clear hW5))
  · rcases why_zero (Hz.out.trans h0) with ⟨j, g, t, Y⟩ | ⟨k, x, j, g, t, Y⟩
    · have HY := Lib.hid Y
      have hgb := HO.out.gb g (List.mem_of_getElem? Y.hg)
      have htb := HO.out.tb j g t Y.hg Y.ht
      have hn2 := Y.hn
      obtain ⟨mo, hmo⟩ : ∃ mo : Int, (if what = sFix then -n else n) = mo := ⟨_, rfl⟩
      have hmb : -9223372036854775808 ≤ t + mo ∧ t + mo < 9223372036854775808 := by
        by_cases e : what = sFix
        · rw [if_pos e] at hmo; have := (Y.fx e).1; omega
        · rw [if_neg e] at hmo; have := (Y.mr e).2.2; omega
      have HF := Lib.hid (fun V (hV : Below w.heap.size w V) => find_any s.ga s.C s.gk nm V (HI.out.g.mono hV) (by have := HO.out.g16; unfold maxLen; omega))
      rw [findA_some Y.hj] at HF
      have Hmo := Lib.hid hmo
      have hk : ((what.toList == [102, 105, 120]) = true ∧ IntKind.i64.wrap (-n) = mo) ∨ (n = mo ∧ (what.toList == [102, 105, 120]) = false ∧ (what.toList == [117, 112]) = true) ∨ (n = mo ∧ (what.toList == [102, 105, 120]) = false ∧ (what.toList == [117, 112]) = false ∧ (what.toList == [114, 97, 105, 115, 101]) = true) := by
        rcases Y.kind with e | e | e
        · exact .inr (.inl ⟨by rw [← hmo, if_neg (by rw [e]; decide)], plit_no (by rw [e]; decide), plit_yes e⟩)
        · exact .inr (.inr ⟨by rw [← hmo, if_neg (by rw [e]; decide)], plit_no (by rw [e]; decide), plit_no (by rw [e]; decide), plit_yes e⟩)
        · exact .inl ⟨plit_yes e, by rw [← hmo, if_pos e]; exact wrap_in (by omega) (by omega)⟩
      obtain ⟨hm0, hm1⟩ := hmb
      have HGr := Lib.hid (fun (s' : St) (B : Nat) (V : World) (hal : PAl s s') (hO : SOwn B s' V) (hB : B ≤ V.heap.size) => grow_any s' B j t mo V hO hB (by rw [hal.t]; exact HY.out.ht) hm0 hm1 (by rw [hal.t, HO.out.lt]; have := HO.out.g16; omega))
      have Hfin := Lib.hid (fun (s' : St) (B : Nat) (V V' : World) (hal : PAl s s') (hB : w.heap.size + 2 < B) (hO : SOwn B { s' with T := s'.T.set j (t + mo) } V) (ho : Only [w.heap.size + 1 + 1] V V') => (⟨{ s' with T := s'.T.set j (t + mo) }, by simp only [List.length_set], (hO.only ho (by simp; omega)).less (by omega), by rw [HY.out.aft, Hmo.out]; exact ⟨hal.c, by dsimp only; rw [hal.t], hal.l, hal.r, hal.c0, hal.c1, hal.c2, hal.un, hal.sh⟩⟩ : ∃ s'', (Ending.returned (.tuple #[.agg #[.slice s'.ga s'.C.length s'.gk, .slice s'.ta s'.T.length s'.tk, .slice s'.ia s'.L.length s'.ik, .int .i64 s'.c0, .int .i64 s'.c1, .int .i64 s'.c2, .slice s'.ra s'.R.length s'.rk, .int .i64 s'.un, .int .i64 s'.sh], .int .i64 0])) = .returned (.tuple #[.agg #[.slice s''.ga s''.C.length s''.gk, .slice s''.ta s''.T.length s''.tk, .slice s''.ia s''.L.length s''.ik, .int .i64 s''.c0, .int .i64 s''.c1, .int .i64 s''.c2, .slice s''.ra s''.R.length s''.rk, .int .i64 s''.un, .int .i64 s''.sh], .int .i64 0]) ∧ SOwn w.heap.size s'' V' ∧ PAl (aft s what nm n) s''))
      clear Y hgb htb hmo
      rcases hk with ⟨k1, k2⟩ | ⟨k0, k1, k2⟩ | ⟨k0, k1, k2, k3⟩
      · go_wp2_with (go_at_call 35; (with_reducible refine (HCp.out _ HB1.out).mono ?_); rintro e w2 ⟨⟨s', rfl, hso, hal⟩, hb2⟩; have HB2 := Lib.hid (HB1.out.trans (hb2.mono HB1.out.size)); have HS2 := Lib.hid (HS1.out.below hb2); have HC2 := Lib.hid (HC1.out.below hb2); have HR2 := Lib.hid (HR1.out.below hb2); have hz2 := hb2.size; have hy2 : w.heap.size < w2.heap.size := (by omega); have hx2 : w.heap.size + 1 < w2.heap.size := (by omega); have hv2 : w.heap.size + 1 + 1 < w2.heap.size := (by omega); have HSo := Lib.hid hso; have HAl := Lib.hid hal; clear hb2 hso hal s0 s1 s2 s3 s4 s5 s6 s7 s8 r0 r1 r2; have s0 := HS2.out.cell 0; have s1 := HS2.out.cell 1; have s2 := HS2.out.cell 2; have s3 := HS2.out.cell 3; have s4 := HS2.out.cell 4; have s5 := HS2.out.cell 5; have s6 := HS2.out.cell 6; have s7 := HS2.out.cell 7; have s8 := HS2.out.cell 8; have r0 := HC2.out.cell 0; have r1 := HC2.out.cell 1; have r2 := HC2.out.cell 2; dsimp only [List.getElem?_cons_zero, List.getElem?_cons_succ] at s0 s1 s2 s3 s4 s5 s6 s7 s8 r0 r1 r2)
        obtain ⟨W3, hW3⟩ : ∃ V, V = w2.alloc (.cells #[.slice s'.ga s'.C.length s'.gk, .slice s'.ta s'.T.length s'.tk, .slice s'.ia s'.L.length s'.ik, .int .i64 s'.c0, .int .i64 s'.c1, .int .i64 s'.c2, .slice s'.ra s'.R.length s'.rk, .int .i64 s'.un, .int .i64 s'.sh] 52) := ⟨_, rfl⟩
        have hBW : Below w2.heap.size w2 W3 := by rw [hW3]; exact (Below.refl _ _).alloc (Nat.le_refl _) _
        have HN3 := Lib.hid (show Blk W3 w2.heap.size 52 [.slice s'.ga s'.C.length s'.gk, .slice s'.ta s'.T.length s'.tk, .slice s'.ia s'.L.length s'.ik, .int .i64 s'.c0, .int .i64 s'.c1, .int .i64 s'.c2, .slice s'.ra s'.R.length s'.rk, .int .i64 s'.un, .int .i64 s'.sh] by rw [hW3]; exact Blk.new w2 _ _)
        have HB3 := Lib.hid (HB2.out.trans (hBW.mono HB2.out.size))
        have HS3 := Lib.hid (HS2.out.below hBW)
        have HC3 := Lib.hid (HC2.out.below hBW)
        have HR3 := Lib.hid (HR2.out.below hBW)
        have HO3 := Lib.hid (HSo.out.mono hBW)
        have hz3 : w2.heap.size < W3.heap.size := HN3.out.lt
        have hy3 : w.heap.size < W3.heap.size := by omega
        have hx3 : w.heap.size + 1 < W3.heap.size := by omega
        rw [← hW3]
        clear hW3 hBW s0 s1 s2 s3 s4 s5 s6 s7 s8 r0 r1 r2
        have s0 := HS3.out.cell 0
        have r1 := HC3.out.cell 1
        dsimp only [List.getElem?_cons_zero, List.getElem?_cons_succ] at s0 r1
        have HRs := Lib.hid (show W3.rangeAt w2.heap.size 0 [.slice s'.ga s'.C.length s'.gk, .slice s'.ta s'.T.length s'.tk, .slice s'.ia s'.L.length s'.ik, .int .i64 s'.c0, .int .i64 s'.c1, .int .i64 s'.c2, .slice s'.ra s'.R.length s'.rk, .int .i64 s'.un, .int .i64 s'.sh] from HN3.out.range 0 _ rfl)
        have hcH := held_cell
        refine region_rel_tail 7 (by kernel_rfl) (by kernel_rfl) (by kernel_rfl) ?_
        dsimp only [List.take, List.drop]
        repeat
          ((with_reducible refine relStep (fun K hK => ?_))
           (have HK := Lib.hid hK)
           clear hK
           (apply relInl
            · intro r n hf
              have Hf := Lib.hid hf
              clear hf
              (first
                | (((with_reducible refine at_rel (ty := 52) ?_); refine rel_load rfl w2.heap.size 0 rfl [.slice s'.ga s'.C.length s'.gk, .slice s'.ta s'.T.length s'.tk, .slice s'.ia s'.L.length s'.ik, .int .i64 s'.c0, .int .i64 s'.c1, .int .i64 s'.c2, .slice s'.ra s'.R.length s'.rk, .int .i64 s'.un, .int .i64 s'.sh] _ Tryz.underlying52 rfl (by kernel_rfl) (rangeAt_mono HRs.out hz3 n.below) rfl))
                | (unfold relAt
                   go_simp
                   (first | (refine relUpon_val ?_ (Below.refl _ _); exact rfl) | exact rfl | (refine relUpon_enter ?_; (go_at_call 38; (with_reducible refine (HF.out _ (HB3.out.trans (n.below.mono HB3.out.size))).mono ?_); rintro e w9 ⟨rfl, hb⟩; exact ⟨⟨_, rfl, rfl⟩, hb⟩)))))
            (simp only [Act.put, List.setIfInBounds_toArray, List.set_cons_zero, List.set_cons_succ])
            (with_reducible refine HK.out _ _ ?_)
            clear HK K))
        refine relNil ?_
        intro r9 n9 hx9
        clear hcH
        (try simp only [List.nil_append, List.cons_append, List.mem_cons, List.not_mem_nil, or_false, forall_eq_or_imp, forall_eq, false_implies, implies_true] at hx9)
        obtain ⟨w9, hb9⟩ := n9
        (try dsimp only)
        obtain ⟨hc9, hf9⟩ := bcell hb9
        have hz9 := hb9.size
        (try simp at hz9)
        have HB9 := Lib.hid (HB3.out.trans (hb9.mono HB3.out.size))
        have HN9 := Lib.hid (HN3.out.below hb9)
        have HR9 := Lib.hid (HR3.out.below hb9)
        have HO9 := Lib.hid (HO3.out.mono hb9)
        have hzw9 : w1.heap.size ≤ w9.heap.size := by omega
        clear hc9 hf9 s0 r1 hb9
        go_wp2_with (first
          | (go_at_call 37; (with_reducible refine (HGr.out s' w1.heap.size w9 HAl.out HO9.out hzw9).mono ?_); rintro e w4 ⟨rfl, ho4, zt, hzt, hBz, hon⟩; have HB4 := Lib.hid (hon.below HB9.out HB9.out.size (by simp; omega)); have HN4 := Lib.hid (HN9.out.only hon (by rw [List.mem_singleton]; exact (blk_ty HN9.out).ne (own_ty HO9.out.t (by (try dsimp only); rw [hzt]; rfl)) (by decide))); have HR4 := Lib.hid (HR9.out.only hon (by rw [List.mem_singleton]; omega)); have HO4 := Lib.hid ho4; have hz4 := hon.size; clear ho4 hon)
          | ((with_reducible refine at_load (ty := 52) ?_); refine load_cells rfl 52 (.tmp 7) rfl w2.heap.size 0 rfl [.slice s'.ga s'.C.length s'.gk, .slice s'.ta s'.T.length s'.tk, .slice s'.ia s'.L.length s'.ik, .int .i64 s'.c0, .int .i64 s'.c1, .int .i64 s'.c2, .slice s'.ra s'.R.length s'.rk, .int .i64 s'.un, .int .i64 s'.sh] _ Tryz.underlying52 rfl (by kernel_rfl) (HN4.out.range 0 _ rfl) ?_)
          | ((with_reducible refine at_store (ty := 52) ?_); refine wpList_store_mid rfl 52 (.tmp 4) (.tmp 74) rfl (w.heap.size + 1 + 1) 0 _ rfl rfl (HR4.out.there 0 9 (Nat.le_of_ble_eq_true rfl)) (by kernel_rfl) (by rw [← Array.all_toList]; rfl) ?_; obtain ⟨W5, hW5⟩ : ∃ W5, W5 = w4.setCells (w.heap.size + 1 + 1) 0 [.slice s'.ga s'.C.length s'.gk, .slice s'.ta s'.T.length s'.tk, .slice s'.ia s'.L.length s'.ik, .int .i64 s'.c0, .int .i64 s'.c1, .int .i64 s'.c2, .slice s'.ra s'.R.length s'.rk, .int .i64 s'.un, .int .i64 s'.sh] := ⟨_, rfl⟩; (show wpList _ _ _ _ _ (w4.setCells (w.heap.size + 1 + 1) 0 [.slice s'.ga s'.C.length s'.gk, .slice s'.ta s'.T.length s'.tk, .slice s'.ia s'.L.length s'.ik, .int .i64 s'.c0, .int .i64 s'.c1, .int .i64 s'.c2, .slice s'.ra s'.R.length s'.rk, .int .i64 s'.un, .int .i64 s'.sh])); rw [← hW5]; have HO5 := Lib.hid (show Only [w.heap.size + 1 + 1] w4 W5 from by rw [hW5]; exact Only.setCells (.inl (by simp)) (Only.refl _ _) _ _); have HY5 := Lib.hid (show Blk W5 (w.heap.size + 1 + 1) 52 [.slice s'.ga s'.C.length s'.gk, .slice s'.ta s'.T.length s'.tk, .slice s'.ia s'.L.length s'.ik, .int .i64 s'.c0, .int .i64 s'.c1, .int .i64 s'.c2, .slice s'.ra s'.R.length s'.rk, .int .i64 s'.un, .int .i64 s'.sh] from by rw [hW5]; exact HR4.out.setCells 0 _); clear hW5))
        have c0 := HY5.out.cell 0
        have c1 := HY5.out.cell 1
        have c2 := HY5.out.cell 2
        have c3 := HY5.out.cell 3
        have c4 := HY5.out.cell 4
        have c5 := HY5.out.cell 5
        have c6 := HY5.out.cell 6
        have c7 := HY5.out.cell 7
        have c8 := HY5.out.cell 8
        dsimp only [List.getElem?_cons_zero, List.getElem?_cons_succ] at c0 c1 c2 c3 c4 c5 c6 c7 c8
        refine bodyPost_ret (v := .tuple #[.agg #[.slice s'.ga s'.C.length s'.gk, .slice s'.ta s'.T.length s'.tk, .slice s'.ia s'.L.length s'.ik, .int .i64 s'.c0, .int .i64 s'.c1, .int .i64 s'.c2, .slice s'.ra s'.R.length s'.rk, .int .i64 s'.un, .int .i64 s'.sh], .int .i64 0]) (by simp [results, Tryz.results17, go_sem, *]) rfl ⟨⟨b, Hbb.out, .inr ⟨Hz.out.trans h0, Hfin.out s' w1.heap.size _ _ HAl.out (by omega) HO4.out HO5.out⟩⟩, HO5.out.below HB4.out (by omega) (by simp; omega)⟩
      · subst k0
        go_wp2_with (go_at_call 35; (with_reducible refine (HCp.out _ HB1.out).mono ?_); rintro e w2 ⟨⟨s', rfl, hso, hal⟩, hb2⟩; have HB2 := Lib.hid (HB1.out.trans (hb2.mono HB1.out.size)); have HS2 := Lib.hid (HS1.out.below hb2); have HC2 := Lib.hid (HC1.out.below hb2); have HR2 := Lib.hid (HR1.out.below hb2); have hz2 := hb2.size; have hy2 : w.heap.size < w2.heap.size := (by omega); have hx2 : w.heap.size + 1 < w2.heap.size := (by omega); have hv2 : w.heap.size + 1 + 1 < w2.heap.size := (by omega); have HSo := Lib.hid hso; have HAl := Lib.hid hal; clear hb2 hso hal s0 s1 s2 s3 s4 s5 s6 s7 s8 r0 r1 r2; have s0 := HS2.out.cell 0; have s1 := HS2.out.cell 1; have s2 := HS2.out.cell 2; have s3 := HS2.out.cell 3; have s4 := HS2.out.cell 4; have s5 := HS2.out.cell 5; have s6 := HS2.out.cell 6; have s7 := HS2.out.cell 7; have s8 := HS2.out.cell 8; have r0 := HC2.out.cell 0; have r1 := HC2.out.cell 1; have r2 := HC2.out.cell 2; dsimp only [List.getElem?_cons_zero, List.getElem?_cons_succ] at s0 s1 s2 s3 s4 s5 s6 s7 s8 r0 r1 r2)
        obtain ⟨W3, hW3⟩ : ∃ V, V = w2.alloc (.cells #[.slice s'.ga s'.C.length s'.gk, .slice s'.ta s'.T.length s'.tk, .slice s'.ia s'.L.length s'.ik, .int .i64 s'.c0, .int .i64 s'.c1, .int .i64 s'.c2, .slice s'.ra s'.R.length s'.rk, .int .i64 s'.un, .int .i64 s'.sh] 52) := ⟨_, rfl⟩
        have hBW : Below w2.heap.size w2 W3 := by rw [hW3]; exact (Below.refl _ _).alloc (Nat.le_refl _) _
        have HN3 := Lib.hid (show Blk W3 w2.heap.size 52 [.slice s'.ga s'.C.length s'.gk, .slice s'.ta s'.T.length s'.tk, .slice s'.ia s'.L.length s'.ik, .int .i64 s'.c0, .int .i64 s'.c1, .int .i64 s'.c2, .slice s'.ra s'.R.length s'.rk, .int .i64 s'.un, .int .i64 s'.sh] by rw [hW3]; exact Blk.new w2 _ _)
        have HB3 := Lib.hid (HB2.out.trans (hBW.mono HB2.out.size))
        have HS3 := Lib.hid (HS2.out.below hBW)
        have HC3 := Lib.hid (HC2.out.below hBW)
        have HR3 := Lib.hid (HR2.out.below hBW)
        have HO3 := Lib.hid (HSo.out.mono hBW)
        have hz3 : w2.heap.size < W3.heap.size := HN3.out.lt
        have hy3 : w.heap.size < W3.heap.size := by omega
        have hx3 : w.heap.size + 1 < W3.heap.size := by omega
        rw [← hW3]
        clear hW3 hBW s0 s1 s2 s3 s4 s5 s6 s7 s8 r0 r1 r2
        have s0 := HS3.out.cell 0
        have r1 := HC3.out.cell 1
        dsimp only [List.getElem?_cons_zero, List.getElem?_cons_succ] at s0 r1
        have HRs := Lib.hid (show W3.rangeAt w2.heap.size 0 [.slice s'.ga s'.C.length s'.gk, .slice s'.ta s'.T.length s'.tk, .slice s'.ia s'.L.length s'.ik, .int .i64 s'.c0, .int .i64 s'.c1, .int .i64 s'.c2, .slice s'.ra s'.R.length s'.rk, .int .i64 s'.un, .int .i64 s'.sh] from HN3.out.range 0 _ rfl)
        have hcH := held_cell
        refine region_rel_tail 7 (by kernel_rfl) (by kernel_rfl) (by kernel_rfl) ?_
        dsimp only [List.take, List.drop]
        repeat
          ((with_reducible refine relStep (fun K hK => ?_))
           (have HK := Lib.hid hK)
           clear hK
           (apply relInl
            · intro r n hf
              have Hf := Lib.hid hf
              clear hf
              (first
                | (((with_reducible refine at_rel (ty := 52) ?_); refine rel_load rfl w2.heap.size 0 rfl [.slice s'.ga s'.C.length s'.gk, .slice s'.ta s'.T.length s'.tk, .slice s'.ia s'.L.length s'.ik, .int .i64 s'.c0, .int .i64 s'.c1, .int .i64 s'.c2, .slice s'.ra s'.R.length s'.rk, .int .i64 s'.un, .int .i64 s'.sh] _ Tryz.underlying52 rfl (by kernel_rfl) (rangeAt_mono HRs.out hz3 n.below) rfl))
                | (unfold relAt
                   go_simp
                   (first | (refine relUpon_val ?_ (Below.refl _ _); exact rfl) | exact rfl | (refine relUpon_enter ?_; (go_at_call 38; (with_reducible refine (HF.out _ (HB3.out.trans (n.below.mono HB3.out.size))).mono ?_); rintro e w9 ⟨rfl, hb⟩; exact ⟨⟨_, rfl, rfl⟩, hb⟩)))))
            (simp only [Act.put, List.setIfInBounds_toArray, List.set_cons_zero, List.set_cons_succ])
            (with_reducible refine HK.out _ _ ?_)
            clear HK K))
        refine relNil ?_
        intro r9 n9 hx9
        clear hcH
        (try simp only [List.nil_append, List.cons_append, List.mem_cons, List.not_mem_nil, or_false, forall_eq_or_imp, forall_eq, false_implies, implies_true] at hx9)
        obtain ⟨w9, hb9⟩ := n9
        (try dsimp only)
        obtain ⟨hc9, hf9⟩ := bcell hb9
        have hz9 := hb9.size
        (try simp at hz9)
        have HB9 := Lib.hid (HB3.out.trans (hb9.mono HB3.out.size))
        have HN9 := Lib.hid (HN3.out.below hb9)
        have HR9 := Lib.hid (HR3.out.below hb9)
        have HO9 := Lib.hid (HO3.out.mono hb9)
        have hzw9 : w1.heap.size ≤ w9.heap.size := by omega
        clear hc9 hf9 s0 r1 hb9
        go_wp2_with (first
          | (go_at_call 37; (with_reducible refine (HGr.out s' w1.heap.size w9 HAl.out HO9.out hzw9).mono ?_); rintro e w4 ⟨rfl, ho4, zt, hzt, hBz, hon⟩; have HB4 := Lib.hid (hon.below HB9.out HB9.out.size (by simp; omega)); have HN4 := Lib.hid (HN9.out.only hon (by rw [List.mem_singleton]; exact (blk_ty HN9.out).ne (own_ty HO9.out.t (by (try dsimp only); rw [hzt]; rfl)) (by decide))); have HR4 := Lib.hid (HR9.out.only hon (by rw [List.mem_singleton]; omega)); have HO4 := Lib.hid ho4; have hz4 := hon.size; clear ho4 hon)
          | ((with_reducible refine at_load (ty := 52) ?_); refine load_cells rfl 52 (.tmp 7) rfl w2.heap.size 0 rfl [.slice s'.ga s'.C.length s'.gk, .slice s'.ta s'.T.length s'.tk, .slice s'.ia s'.L.length s'.ik, .int .i64 s'.c0, .int .i64 s'.c1, .int .i64 s'.c2, .slice s'.ra s'.R.length s'.rk, .int .i64 s'.un, .int .i64 s'.sh] _ Tryz.underlying52 rfl (by kernel_rfl) (HN4.out.range 0 _ rfl) ?_)
          | ((with_reducible refine at_store (ty := 52) ?_); refine wpList_store_mid rfl 52 (.tmp 4) (.tmp 74) rfl (w.heap.size + 1 + 1) 0 _ rfl rfl (HR4.out.there 0 9 (Nat.le_of_ble_eq_true rfl)) (by kernel_rfl) (by rw [← Array.all_toList]; rfl) ?_; obtain ⟨W5, hW5⟩ : ∃ W5, W5 = w4.setCells (w.heap.size + 1 + 1) 0 [.slice s'.ga s'.C.length s'.gk, .slice s'.ta s'.T.length s'.tk, .slice s'.ia s'.L.length s'.ik, .int .i64 s'.c0, .int .i64 s'.c1, .int .i64 s'.c2, .slice s'.ra s'.R.length s'.rk, .int .i64 s'.un, .int .i64 s'.sh] := ⟨_, rfl⟩; (show wpList _ _ _ _ _ (w4.setCells (w.heap.size + 1 + 1) 0 [.slice s'.ga s'.C.length s'.gk, .slice s'.ta s'.T.length s'.tk, .slice s'.ia s'.L.length s'.ik, .int .i64 s'.c0, .int .i64 s'.c1, .int .i64 s'.c2, .slice s'.ra s'.R.length s'.rk, .int .i64 s'.un, .int .i64 s'.sh])); rw [← hW5]; have HO5 := Lib.hid (show Only [w.heap.size + 1 + 1] w4 W5 from by rw [hW5]; exact Only.setCells (.inl (by simp)) (Only.refl _ _) _ _); have HY5 := Lib.hid (show Blk W5 (w.heap.size + 1 + 1) 52 [.slice s'.ga s'.C.length s'.gk, .slice s'.ta s'.T.length s'.tk, .slice s'.ia s'.L.length s'.ik, .int .i64 s'.c0, .int .i64 s'.c1, .int .i64 s'.c2, .slice s'.ra s'.R.length s'.rk, .int .i64 s'.un, .int .i64 s'.sh] from by rw [hW5]; exact HR4.out.setCells 0 _); clear hW5))
        have c0 := HY5.out.cell 0
        have c1 := HY5.out.cell 1
        have c2 := HY5.out.cell 2
        have c3 := HY5.out.cell 3
        have c4 := HY5.out.cell 4
        have c5 := HY5.out.cell 5
        have c6 := HY5.out.cell 6
        have c7 := HY5.out.cell 7
        have c8 := HY5.out.cell 8
        dsimp only [List.getElem?_cons_zero, List.getElem?_cons_succ] at c0 c1 c2 c3 c4 c5 c6 c7 c8
        refine bodyPost_ret (v := .tuple #[.agg #[.slice s'.ga s'.C.length s'.gk, .slice s'.ta s'.T.length s'.tk, .slice s'.ia s'.L.length s'.ik, .int .i64 s'.c0, .int .i64 s'.c1, .int .i64 s'.c2, .slice s'.ra s'.R.length s'.rk, .int .i64 s'.un, .int .i64 s'.sh], .int .i64 0]) (by simp [results, Tryz.results17, go_sem, *]) rfl ⟨⟨b, Hbb.out, .inr ⟨Hz.out.trans h0, Hfin.out s' w1.heap.size _ _ HAl.out (by omega) HO4.out HO5.out⟩⟩, HO5.out.below HB4.out (by omega) (by simp; omega)⟩
      · subst k0
        go_wp2_with (go_at_call 35; (with_reducible refine (HCp.out _ HB1.out).mono ?_); rintro e w2 ⟨⟨s', rfl, hso, hal⟩, hb2⟩; have HB2 := Lib.hid (HB1.out.trans (hb2.mono HB1.out.size)); have HS2 := Lib.hid (HS1.out.below hb2); have HC2 := Lib.hid (HC1.out.below hb2); have HR2 := Lib.hid (HR1.out.below hb2); have hz2 := hb2.size; have hy2 : w.heap.size < w2.heap.size := (by omega); have hx2 : w.heap.size + 1 < w2.heap.size := (by omega); have hv2 : w.heap.size + 1 + 1 < w2.heap.size := (by omega); have HSo := Lib.hid hso; have HAl := Lib.hid hal; clear hb2 hso hal s0 s1 s2 s3 s4 s5 s6 s7 s8 r0 r1 r2; have s0 := HS2.out.cell 0; have s1 := HS2.out.cell 1; have s2 := HS2.out.cell 2; have s3 := HS2.out.cell 3; have s4 := HS2.out.cell 4; have s5 := HS2.out.cell 5; have s6 := HS2.out.cell 6; have s7 := HS2.out.cell 7; have s8 := HS2.out.cell 8; have r0 := HC2.out.cell 0; have r1 := HC2.out.cell 1; have r2 := HC2.out.cell 2; dsimp only [List.getElem?_cons_zero, List.getElem?_cons_succ] at s0 s1 s2 s3 s4 s5 s6 s7 s8 r0 r1 r2)
        obtain ⟨W3, hW3⟩ : ∃ V, V = w2.alloc (.cells #[.slice s'.ga s'.C.length s'.gk, .slice s'.ta s'.T.length s'.tk, .slice s'.ia s'.L.length s'.ik, .int .i64 s'.c0, .int .i64 s'.c1, .int .i64 s'.c2, .slice s'.ra s'.R.length s'.rk, .int .i64 s'.un, .int .i64 s'.sh] 52) := ⟨_, rfl⟩
        have hBW : Below w2.heap.size w2 W3 := by rw [hW3]; exact (Below.refl _ _).alloc (Nat.le_refl _) _
        have HN3 := Lib.hid (show Blk W3 w2.heap.size 52 [.slice s'.ga s'.C.length s'.gk, .slice s'.ta s'.T.length s'.tk, .slice s'.ia s'.L.length s'.ik, .int .i64 s'.c0, .int .i64 s'.c1, .int .i64 s'.c2, .slice s'.ra s'.R.length s'.rk, .int .i64 s'.un, .int .i64 s'.sh] by rw [hW3]; exact Blk.new w2 _ _)
        have HB3 := Lib.hid (HB2.out.trans (hBW.mono HB2.out.size))
        have HS3 := Lib.hid (HS2.out.below hBW)
        have HC3 := Lib.hid (HC2.out.below hBW)
        have HR3 := Lib.hid (HR2.out.below hBW)
        have HO3 := Lib.hid (HSo.out.mono hBW)
        have hz3 : w2.heap.size < W3.heap.size := HN3.out.lt
        have hy3 : w.heap.size < W3.heap.size := by omega
        have hx3 : w.heap.size + 1 < W3.heap.size := by omega
        rw [← hW3]
        clear hW3 hBW s0 s1 s2 s3 s4 s5 s6 s7 s8 r0 r1 r2
        have s0 := HS3.out.cell 0
        have r1 := HC3.out.cell 1
        dsimp only [List.getElem?_cons_zero, List.getElem?_cons_succ] at s0 r1
        have HRs := Lib.hid (show W3.rangeAt w2.heap.size 0 [.slice s'.ga s'.C.length s'.gk, .slice s'.ta s'.T.length s'.tk, .slice s'.ia s'.L.length s'.ik, .int .i64 s'.c0, .int .i64 s'.c1, .int .i64 s'.c2, .slice s'.ra s'.R.length s'.rk, .int .i64 s'.un, .int .i64 s'.sh] from HN3.out.range 0 _ rfl)
        have hcH := held_cell
        refine region_rel_tail 7 (by kernel_rfl) (by kernel_rfl) (by kernel_rfl) ?_
        dsimp only [List.take, List.drop]
        repeat
          ((with_reducible refine relStep (fun K hK => ?_))
           (have HK := Lib.hid hK)
           clear hK
           (apply relInl
            · intro r n hf
              have Hf := Lib.hid hf
              clear hf
              (first
                | (((with_reducible refine at_rel (ty := 52) ?_); refine rel_load rfl w2.heap.size 0 rfl [.slice s'.ga s'.C.length s'.gk, .slice s'.ta s'.T.length s'.tk, .slice s'.ia s'.L.length s'.ik, .int .i64 s'.c0, .int .i64 s'.c1, .int .i64 s'.c2, .slice s'.ra s'.R.length s'.rk, .int .i64 s'.un, .int .i64 s'.sh] _ Tryz.underlying52 rfl (by kernel_rfl) (rangeAt_mono HRs.out hz3 n.below) rfl))
                | (unfold relAt
                   go_simp
                   (first | (refine relUpon_val ?_ (Below.refl _ _); exact rfl) | exact rfl | (refine relUpon_enter ?_; (go_at_call 38; (with_reducible refine (HF.out _ (HB3.out.trans (n.below.mono HB3.out.size))).mono ?_); rintro e w9 ⟨rfl, hb⟩; exact ⟨⟨_, rfl, rfl⟩, hb⟩)))))
            (simp only [Act.put, List.setIfInBounds_toArray, List.set_cons_zero, List.set_cons_succ])
            (with_reducible refine HK.out _ _ ?_)
            clear HK K))
        refine relNil ?_
        intro r9 n9 hx9
        clear hcH
        (try simp only [List.nil_append, List.cons_append, List.mem_cons, List.not_mem_nil, or_false, forall_eq_or_imp, forall_eq, false_implies, implies_true] at hx9)
        obtain ⟨w9, hb9⟩ := n9
        (try dsimp only)
        obtain ⟨hc9, hf9⟩ := bcell hb9
        have hz9 := hb9.size
        (try simp at hz9)
        have HB9 := Lib.hid (HB3.out.trans (hb9.mono HB3.out.size))
        have HN9 := Lib.hid (HN3.out.below hb9)
        have HR9 := Lib.hid (HR3.out.below hb9)
        have HO9 := Lib.hid (HO3.out.mono hb9)
        have hzw9 : w1.heap.size ≤ w9.heap.size := by omega
        clear hc9 hf9 s0 r1 hb9
        go_wp2_with (first
          | (go_at_call 37; (with_reducible refine (HGr.out s' w1.heap.size w9 HAl.out HO9.out hzw9).mono ?_); rintro e w4 ⟨rfl, ho4, zt, hzt, hBz, hon⟩; have HB4 := Lib.hid (hon.below HB9.out HB9.out.size (by simp; omega)); have HN4 := Lib.hid (HN9.out.only hon (by rw [List.mem_singleton]; exact (blk_ty HN9.out).ne (own_ty HO9.out.t (by (try dsimp only); rw [hzt]; rfl)) (by decide))); have HR4 := Lib.hid (HR9.out.only hon (by rw [List.mem_singleton]; omega)); have HO4 := Lib.hid ho4; have hz4 := hon.size; clear ho4 hon)
          | ((with_reducible refine at_load (ty := 52) ?_); refine load_cells rfl 52 (.tmp 7) rfl w2.heap.size 0 rfl [.slice s'.ga s'.C.length s'.gk, .slice s'.ta s'.T.length s'.tk, .slice s'.ia s'.L.length s'.ik, .int .i64 s'.c0, .int .i64 s'.c1, .int .i64 s'.c2, .slice s'.ra s'.R.length s'.rk, .int .i64 s'.un, .int .i64 s'.sh] _ Tryz.underlying52 rfl (by kernel_rfl) (HN4.out.range 0 _ rfl) ?_)
          | ((with_reducible refine at_store (ty := 52) ?_); refine wpList_store_mid rfl 52 (.tmp 4) (.tmp 74) rfl (w.heap.size + 1 + 1) 0 _ rfl rfl (HR4.out.there 0 9 (Nat.le_of_ble_eq_true rfl)) (by kernel_rfl) (by rw [← Array.all_toList]; rfl) ?_; obtain ⟨W5, hW5⟩ : ∃ W5, W5 = w4.setCells (w.heap.size + 1 + 1) 0 [.slice s'.ga s'.C.length s'.gk, .slice s'.ta s'.T.length s'.tk, .slice s'.ia s'.L.length s'.ik, .int .i64 s'.c0, .int .i64 s'.c1, .int .i64 s'.c2, .slice s'.ra s'.R.length s'.rk, .int .i64 s'.un, .int .i64 s'.sh] := ⟨_, rfl⟩; (show wpList _ _ _ _ _ (w4.setCells (w.heap.size + 1 + 1) 0 [.slice s'.ga s'.C.length s'.gk, .slice s'.ta s'.T.length s'.tk, .slice s'.ia s'.L.length s'.ik, .int .i64 s'.c0, .int .i64 s'.c1, .int .i64 s'.c2, .slice s'.ra s'.R.length s'.rk, .int .i64 s'.un, .int .i64 s'.sh])); rw [← hW5]; have HO5 := Lib.hid (show Only [w.heap.size + 1 + 1] w4 W5 from by rw [hW5]; exact Only.setCells (.inl (by simp)) (Only.refl _ _) _ _); have HY5 := Lib.hid (show Blk W5 (w.heap.size + 1 + 1) 52 [.slice s'.ga s'.C.length s'.gk, .slice s'.ta s'.T.length s'.tk, .slice s'.ia s'.L.length s'.ik, .int .i64 s'.c0, .int .i64 s'.c1, .int .i64 s'.c2, .slice s'.ra s'.R.length s'.rk, .int .i64 s'.un, .int .i64 s'.sh] from by rw [hW5]; exact HR4.out.setCells 0 _); clear hW5))
        have c0 := HY5.out.cell 0
        have c1 := HY5.out.cell 1
        have c2 := HY5.out.cell 2
        have c3 := HY5.out.cell 3
        have c4 := HY5.out.cell 4
        have c5 := HY5.out.cell 5
        have c6 := HY5.out.cell 6
        have c7 := HY5.out.cell 7
        have c8 := HY5.out.cell 8
        dsimp only [List.getElem?_cons_zero, List.getElem?_cons_succ] at c0 c1 c2 c3 c4 c5 c6 c7 c8
        refine bodyPost_ret (v := .tuple #[.agg #[.slice s'.ga s'.C.length s'.gk, .slice s'.ta s'.T.length s'.tk, .slice s'.ia s'.L.length s'.ik, .int .i64 s'.c0, .int .i64 s'.c1, .int .i64 s'.c2, .slice s'.ra s'.R.length s'.rk, .int .i64 s'.un, .int .i64 s'.sh], .int .i64 0]) (by simp [results, Tryz.results17, go_sem, *]) rfl ⟨⟨b, Hbb.out, .inr ⟨Hz.out.trans h0, Hfin.out s' w1.heap.size _ _ HAl.out (by omega) HO4.out HO5.out⟩⟩, HO5.out.below HB4.out (by omega) (by simp; omega)⟩
    · have HY := Lib.hid Y
      have HFi := Lib.hid (fun V (hV : Below w.heap.size w V) => pfind_some s nm k x j V (HI.out.mono hV) (by have := HO.out.lb; omega) Y.hk Y.hx (findA_some Y.hj) (by have := HO.out.g16; omega))
      rw [decide_eq_true (show (0 : Int) ≤ (j : Int) by omega)] at HFi
      have HTg := Lib.hid (fun V (hV : Below w.heap.size w V) => ptarget_any s j t V (HI.out.mono hV) Y.ht (by have := HO.out.g16; have := HO.out.lt; omega))
      have hjn := lt_at Y.hg
      obtain ⟨b2, o2, hga, hbw2, hc2⟩ := HI.out.g (by omega)
      obtain ⟨-, x1, -⟩ := grow_cells (hc2 j g Y.hg)
      obtain ⟨mn, hmn⟩ : ∃ mn, g.mn = mn := ⟨_, rfl⟩
      rw [hmn] at x1
      have Hmn := Lib.hid hmn
      have htb := HO.out.tb j g t Y.hg Y.ht
      have hgb := HO.out.gb g (List.mem_of_getElem? Y.hg)
      have Hga := Lib.hid hga
      have hkd : ((what.toList == [99, 108, 101, 97, 110]) = true) ∨ ((what.toList == [99, 108, 101, 97, 110]) = false ∧ (what.toList == [100, 101, 108, 101, 116, 101]) = true) := by
        rcases Y.kind with e | e
        · exact .inl (plit_yes e)
        · exact .inr ⟨plit_no (by rw [e]; decide), plit_yes e⟩
      have q1 : (what.toList == [102, 105, 120]) = false := plit_no (by rcases Y.kind with e | e <;> rw [e] <;> decide)
      have q2 : (what.toList == [117, 112]) = false := plit_no (by rcases Y.kind with e | e <;> rw [e] <;> decide)
      have q3 : (what.toList == [114, 97, 105, 115, 101]) = false := plit_no (by rcases Y.kind with e | e <;> rw [e] <;> decide)
      have HGr := Lib.hid (fun (s' : St) (B : Nat) (V : World) (hal : PAl s s') (hO : SOwn B { s' with L := s'.L.set k { x with st := 3, lf := 1 } } V) (hB : B ≤ V.heap.size) =>
        (show Calls Tryz.prog 37 #[.agg #[.slice s'.ga s'.C.length s'.gk, .slice s'.ta s'.T.length s'.tk, .slice s'.ia s'.L.length s'.ik, .int .i64 s'.c0, .int .i64 s'.c1, .int .i64 s'.c2, .slice s'.ra s'.R.length s'.rk, .int .i64 s'.un, .int .i64 s'.sh], .int .i64 (j : Int), .int .i64 (-1)] V fun e w' => e = .returned (.tuple #[]) ∧ SOwn B { s' with T := s'.T.set j (t + -1), L := s'.L.set k { x with st := 3, lf := 1 } } w' ∧ ∃ z, s'.ta = some ⟨z, 0, none⟩ ∧ B ≤ z ∧ Only [z] V w' from by
          have h := grow_any { s' with L := s'.L.set k { x with st := 3, lf := 1 } } B j t (-1) V hO hB (by rw [hal.t]; exact HY.out.ht) (by omega) (by omega) (by rw [hal.t, HO.out.lt]; have := HO.out.g16; omega)
          simpa only [List.length_set] using h))
      have Hfn := Lib.hid (fun (s' : St) (T' : List Int) (B : Nat) (V V' : World) (hal : PAl s s') (hT' : T' = if mn < t then s.T.set j (t + -1) else s.T) (hl : T'.length = s'.T.length) (hB : w.heap.size + 2 < B) (hO : SOwn B { s' with T := T', L := s'.L.set k { x with st := 3, lf := 1 } } V) (ho : Only [w.heap.size + 1 + 1] V V') => (⟨{ s' with T := T', L := s'.L.set k { x with st := 3, lf := 1 } }, by simp only [List.length_set, hl], (hO.only ho (by simp; omega)).less (by omega), by rw [HY.out.aft, Hmn.out]; exact ⟨hal.c, hT', by dsimp only; rw [hal.l], hal.r, hal.c0, hal.c1, hal.c2, hal.un, hal.sh⟩⟩ : ∃ s'', (Ending.returned (.tuple #[.agg #[.slice s'.ga s'.C.length s'.gk, .slice s'.ta s'.T.length s'.tk, .slice s'.ia s'.L.length s'.ik, .int .i64 s'.c0, .int .i64 s'.c1, .int .i64 s'.c2, .slice s'.ra s'.R.length s'.rk, .int .i64 s'.un, .int .i64 s'.sh], .int .i64 0])) = .returned (.tuple #[.agg #[.slice s''.ga s''.C.length s''.gk, .slice s''.ta s''.T.length s''.tk, .slice s''.ia s''.L.length s''.ik, .int .i64 s''.c0, .int .i64 s''.c1, .int .i64 s''.c2, .slice s''.ra s''.R.length s''.rk, .int .i64 s''.un, .int .i64 s''.sh], .int .i64 0]) ∧ SOwn w.heap.size s'' V' ∧ PAl (aft s what nm n) s''))
      clear Y hc2 hmn hga
      by_cases hlm : mn < t
      · have k6 : decide (mn < t) = true := decide_eq_true hlm
        have Hfin := Lib.hid (fun (s' : St) (B : Nat) (V V' : World) (hal : PAl s s') => Hfn.out s' (s'.T.set j (t + -1)) B V V' hal (by rw [if_pos hlm, hal.t]) (List.length_set ..))
        rcases hkd with k1 | ⟨k1, k2⟩
        · go_wp2_with (first
            | (go_at_call 35; (with_reducible refine (HCp.out _ HB1.out).mono ?_); rintro e w2 ⟨⟨s', rfl, hso, hal⟩, hb2⟩; have HB2 := Lib.hid (HB1.out.trans (hb2.mono HB1.out.size)); have HS2 := Lib.hid (HS1.out.below hb2); have HC2 := Lib.hid (HC1.out.below hb2); have HR2 := Lib.hid (HR1.out.below hb2); have hz2 := hb2.size; have hy2 : w.heap.size < w2.heap.size := (by omega); have hx2 : w.heap.size + 1 < w2.heap.size := (by omega); have hv2 : w.heap.size + 1 + 1 < w2.heap.size := (by omega); have HSo := Lib.hid hso; have HAl := Lib.hid hal; clear hb2 hso hal s0 s1 s2 s3 s4 s5 s6 s7 s8 r0 r1 r2; have s0 := HS2.out.cell 0; have s1 := HS2.out.cell 1; have s2 := HS2.out.cell 2; have s3 := HS2.out.cell 3; have s4 := HS2.out.cell 4; have s5 := HS2.out.cell 5; have s6 := HS2.out.cell 6; have s7 := HS2.out.cell 7; have s8 := HS2.out.cell 8; have r0 := HC2.out.cell 0; have r1 := HC2.out.cell 1; have r2 := HC2.out.cell 2; dsimp only [List.getElem?_cons_zero, List.getElem?_cons_succ] at s0 s1 s2 s3 s4 s5 s6 s7 s8 r0 r1 r2)
            | (go_at_call 39; (with_reducible refine (HFi.out _ (HB2.out.alloc (Nat.le_of_lt hy2) _)).mono ?_); rintro e w3 ⟨rfl, hb3⟩; have HB3 := Lib.hid ((HB2.out.alloc (Nat.le_of_lt hy2) _).trans (hb3.mono (HB2.out.alloc (Nat.le_of_lt hy2) _).size)); have HN3 := Lib.hid ((Blk.new w2 52 [.slice s'.ga s'.C.length s'.gk, .slice s'.ta s'.T.length s'.tk, .slice s'.ia s'.L.length s'.ik, .int .i64 s'.c0, .int .i64 s'.c1, .int .i64 s'.c2, .slice s'.ra s'.R.length s'.rk, .int .i64 s'.un, .int .i64 s'.sh]).below hb3); have HS3 := Lib.hid ((HS2.out.alloc _).below hb3); have HC3 := Lib.hid ((HC2.out.alloc _).below hb3); have HR3 := Lib.hid ((HR2.out.alloc _).below hb3); have HO3 := Lib.hid ((HSo.out.mono ((Below.refl _ _).alloc (Nat.le_refl _) _)).mono hb3); have hz3 := hb3.size; (try simp at hz3); clear hb3 s0 s1 s2 s3 s4 s5 s6 s7 s8 r0 r1 r2))
          obtain ⟨zi, hzi, hBi, hlti⟩ := own_blk HO3.out.i (by rw [HAl.out.l]; exact Nat.lt_of_le_of_lt (Nat.zero_le _) (lt_at HY.out.hx))
          have hx' : s'.L[k]? = some x := by rw [HAl.out.l]; exact HY.out.hx
          have hkl := lt_at hx'
          have Hx' := Lib.hid hx'
          obtain ⟨ai, ki, ei, -, hri⟩ := OwnL.isL irow_len (by decide) HO3.out.i
          injection ei with ei ej ek
          clear ej ek
          subst ei
          obtain ⟨bi, oi, hbi, hbwi, hci⟩ := hri (by omega)
          rw [hzi] at hbi
          obtain ⟨rfl, rfl⟩ : zi = bi ∧ 0 = oi := by injection hbi with hbi; injection hbi with h1 h2; exact ⟨h1, h2⟩
          obtain ⟨-, -, e2, e3, -⟩ := irow_cells (hci k x hx')
          simp only [Nat.zero_add] at e2 e3
          have hoi := HO3.out.i
          unfold OwnL at hoi
          rw [hzi] at hoi
          have u2 := hoi.frozenAt (k * 5 + 2)
          have u3 := hoi.frozenAt (k * 5 + 3)
          have y2 := HN3.out.cell 2
          dsimp only [List.getElem?_cons_zero, List.getElem?_cons_succ] at y2
          rw [hzi] at y2
          have hzn : w2.heap.size ≠ zi := (blk_ty HN3.out).ne (own_ty hoi rfl) (by decide)
          have hn3 := HN3.out.lt
          have hL3 : (s'.L.length : Int) ≤ 1000000 := by have := HO.out.lb; rw [HAl.out.l]; omega
          clear hci hx' hoi hbi
          go_region
          obtain ⟨W4, hW4⟩ : ∃ V, V = ((w3.setCell ⟨zi, k * 5 + 2, none⟩ (.int .i64 3)).setCell ⟨zi, k * 5 + 3, none⟩ (.int .i64 1)).drew := ⟨_, rfl⟩
          have hon4 : Only [zi] w3 W4 := by rw [hW4]; exact (((Only.refl _ _).setCell (p := ⟨zi, k * 5 + 2, none⟩) (.inl (List.mem_singleton.2 rfl)) _).setCell (p := ⟨zi, k * 5 + 3, none⟩) (.inl (List.mem_singleton.2 rfl)) _).drew
          have HO4 := Lib.hid (show SOwn w1.heap.size { s' with L := s'.L.set k { x with st := 3, lf := 1 } } W4 from by
            have h9 := (HO3.out.iset (v := .int .i64 3) (y := { x with st := 3 }) hzi Hx'.out (r := 2) (by decide) rfl).iset (k := k) (x := { x with st := 3 }) (y := { x with st := 3, lf := 1 }) (v := .int .i64 1) (r := 3) hzi (by dsimp only; rw [List.getElem?_set_self hkl]) (by decide) rfl
            dsimp only at h9
            rw [List.set_set] at h9
            rw [hW4]
            exact h9.mono (Below.refl _ _).drew)
          have HB4 := Lib.hid (hon4.below HB3.out HB3.out.size (by simp; omega))
          have HN4 := Lib.hid (HN3.out.only hon4 (by rw [List.mem_singleton]; exact hzn))
          have HS4 := Lib.hid (HS3.out.only hon4 (by rw [List.mem_singleton]; omega))
          have HR4 := Lib.hid (HR3.out.only hon4 (by rw [List.mem_singleton]; omega))
          have hz4 := hon4.size
          rw [← hW4]
          clear hW4 hon4 u2 u3 y2 e2 e3 hri hzi
          have s0 := HS4.out.cell 0
          dsimp only [List.getElem?_cons_zero, List.getElem?_cons_succ] at s0
          have hy4 := HS4.out.lt
          have HRs := Lib.hid (show W4.rangeAt w.heap.size 0 [.slice s.ga s.C.length s.gk, .slice s.ta s.T.length s.tk, .slice s.ia s.L.length s.ik, .int .i64 s.c0, .int .i64 s.c1, .int .i64 s.c2, .slice s.ra s.R.length s.rk, .int .i64 s.un, .int .i64 s.sh] from HS4.out.range 0 _ rfl)
          have g1 := (HB4.out.cell (p := ⟨b2, o2 + j * 15 + 1, none⟩) hbw2).trans x1
          have hb24 : b2 < W4.heap.size := Nat.lt_of_lt_of_le hbw2 HB4.out.size
          rw [Hga.out] at s0
          go_wp2
          have hcH := held_cell
          refine region_rel (by kernel_rfl) (by kernel_rfl) ?_
          repeat
            ((with_reducible refine relStep (fun K hK => ?_))
             (have HK := Lib.hid hK)
             clear hK
             (apply relInl
              · intro r n hf
                have Hf := Lib.hid hf
                clear hf
                (first
                  | (((with_reducible refine at_rel (ty := 52) ?_); refine rel_load rfl w.heap.size 0 rfl [.slice s.ga s.C.length s.gk, .slice s.ta s.T.length s.tk, .slice s.ia s.L.length s.ik, .int .i64 s.c0, .int .i64 s.c1, .int .i64 s.c2, .slice s.ra s.R.length s.rk, .int .i64 s.un, .int .i64 s.sh] _ Tryz.underlying52 rfl (by kernel_rfl) (rangeAt_mono HRs.out hy4 n.below) rfl))
                  | (unfold relAt
                     go_simp
                     (first | (refine relUpon_val ?_ (Below.refl _ _); exact rfl) | exact rfl | (refine relUpon_enter ?_; (go_at_call 40; (with_reducible refine (HTg.out _ (HB4.out.trans (n.below.mono HB4.out.size))).mono ?_); rintro e w9 ⟨rfl, hb⟩; exact ⟨⟨_, rfl, rfl⟩, hb⟩)))))
              (simp only [Act.put, List.setIfInBounds_toArray, List.set_cons_zero, List.set_cons_succ])
              (with_reducible refine HK.out _ _ ?_)
              clear HK K))
          refine relNil ?_
          intro r9 n9 hx9
          clear hcH
          (try simp only [List.nil_append, List.cons_append, List.mem_cons, List.not_mem_nil, or_false, forall_eq_or_imp, forall_eq, false_implies, implies_true] at hx9)
          obtain ⟨w9, hb9⟩ := n9
          (try dsimp only)
          obtain ⟨hc9, hf9⟩ := bcell hb9
          have hz9 := hb9.size
          (try simp at hz9)
          have HB9 := Lib.hid (HB4.out.trans (hb9.mono HB4.out.size))
          have HN9 := Lib.hid (HN4.out.below hb9)
          have HR9 := Lib.hid (HR4.out.below hb9)
          have HO9 := Lib.hid (HO4.out.mono hb9)
          have hzw9 : w1.heap.size ≤ w9.heap.size := by omega
          clear hc9 hf9 s0 g1 hb9 HB4 HN4 HR4 HO4
          go_wp2_with (first
            | (go_at_call 37; (with_reducible refine (HGr.out s' w1.heap.size w9 HAl.out HO9.out hzw9).mono ?_); rintro e w4 ⟨rfl, ho4, zt, hzt, hBz, hon⟩; have HB4 := Lib.hid (hon.below HB9.out HB9.out.size (by simp; omega)); have HN4 := Lib.hid (HN9.out.only hon (by rw [List.mem_singleton]; exact (blk_ty HN9.out).ne (own_ty HO9.out.t (by (try dsimp only); rw [hzt]; rfl)) (by decide))); have HR4 := Lib.hid (HR9.out.only hon (by rw [List.mem_singleton]; omega)); have HO4 := Lib.hid ho4; have hz4 := hon.size; clear ho4 hon)
            | ((with_reducible refine at_load (ty := 52) ?_); refine load_cells rfl 52 (.tmp 7) rfl w2.heap.size 0 rfl [.slice s'.ga s'.C.length s'.gk, .slice s'.ta s'.T.length s'.tk, .slice s'.ia s'.L.length s'.ik, .int .i64 s'.c0, .int .i64 s'.c1, .int .i64 s'.c2, .slice s'.ra s'.R.length s'.rk, .int .i64 s'.un, .int .i64 s'.sh] _ Tryz.underlying52 rfl (by kernel_rfl) (HN4.out.range 0 _ rfl) ?_)
            | ((with_reducible refine at_load (ty := 52) ?_); refine load_cells rfl 52 (.tmp 7) rfl w2.heap.size 0 rfl [.slice s'.ga s'.C.length s'.gk, .slice s'.ta s'.T.length s'.tk, .slice s'.ia s'.L.length s'.ik, .int .i64 s'.c0, .int .i64 s'.c1, .int .i64 s'.c2, .slice s'.ra s'.R.length s'.rk, .int .i64 s'.un, .int .i64 s'.sh] _ Tryz.underlying52 rfl (by kernel_rfl) (HN9.out.range 0 _ rfl) ?_)
            | ((with_reducible refine at_store (ty := 52) ?_); refine wpList_store_mid rfl 52 (.tmp 4) (.tmp 74) rfl (w.heap.size + 1 + 1) 0 _ rfl rfl (HR4.out.there 0 9 (Nat.le_of_ble_eq_true rfl)) (by kernel_rfl) (by rw [← Array.all_toList]; rfl) ?_; obtain ⟨W5, hW5⟩ : ∃ W5, W5 = w4.setCells (w.heap.size + 1 + 1) 0 [.slice s'.ga s'.C.length s'.gk, .slice s'.ta s'.T.length s'.tk, .slice s'.ia s'.L.length s'.ik, .int .i64 s'.c0, .int .i64 s'.c1, .int .i64 s'.c2, .slice s'.ra s'.R.length s'.rk, .int .i64 s'.un, .int .i64 s'.sh] := ⟨_, rfl⟩; (show wpList _ _ _ _ _ (w4.setCells (w.heap.size + 1 + 1) 0 [.slice s'.ga s'.C.length s'.gk, .slice s'.ta s'.T.length s'.tk, .slice s'.ia s'.L.length s'.ik, .int .i64 s'.c0, .int .i64 s'.c1, .int .i64 s'.c2, .slice s'.ra s'.R.length s'.rk, .int .i64 s'.un, .int .i64 s'.sh])); rw [← hW5]; have HO5 := Lib.hid (show Only [w.heap.size + 1 + 1] w4 W5 from by rw [hW5]; exact Only.setCells (.inl (by simp)) (Only.refl _ _) _ _); have HY5 := Lib.hid (show Blk W5 (w.heap.size + 1 + 1) 52 [.slice s'.ga s'.C.length s'.gk, .slice s'.ta s'.T.length s'.tk, .slice s'.ia s'.L.length s'.ik, .int .i64 s'.c0, .int .i64 s'.c1, .int .i64 s'.c2, .slice s'.ra s'.R.length s'.rk, .int .i64 s'.un, .int .i64 s'.sh] from by rw [hW5]; exact HR4.out.setCells 0 _); clear hW5))
          have c0 := HY5.out.cell 0
          have c1 := HY5.out.cell 1
          have c2 := HY5.out.cell 2
          have c3 := HY5.out.cell 3
          have c4 := HY5.out.cell 4
          have c5 := HY5.out.cell 5
          have c6 := HY5.out.cell 6
          have c7 := HY5.out.cell 7
          have c8 := HY5.out.cell 8
          dsimp only [List.getElem?_cons_zero, List.getElem?_cons_succ] at c0 c1 c2 c3 c4 c5 c6 c7 c8
          refine bodyPost_ret (v := .tuple #[.agg #[.slice s'.ga s'.C.length s'.gk, .slice s'.ta s'.T.length s'.tk, .slice s'.ia s'.L.length s'.ik, .int .i64 s'.c0, .int .i64 s'.c1, .int .i64 s'.c2, .slice s'.ra s'.R.length s'.rk, .int .i64 s'.un, .int .i64 s'.sh], .int .i64 0]) (by simp [results, Tryz.results17, go_sem, *]) rfl ⟨⟨b, Hbb.out, .inr ⟨Hz.out.trans h0, Hfin.out s' w1.heap.size _ _ HAl.out (by omega) HO4.out HO5.out⟩⟩, HO5.out.below HB4.out (by omega) (by simp; omega)⟩
        · go_wp2_with (first
            | (go_at_call 35; (with_reducible refine (HCp.out _ HB1.out).mono ?_); rintro e w2 ⟨⟨s', rfl, hso, hal⟩, hb2⟩; have HB2 := Lib.hid (HB1.out.trans (hb2.mono HB1.out.size)); have HS2 := Lib.hid (HS1.out.below hb2); have HC2 := Lib.hid (HC1.out.below hb2); have HR2 := Lib.hid (HR1.out.below hb2); have hz2 := hb2.size; have hy2 : w.heap.size < w2.heap.size := (by omega); have hx2 : w.heap.size + 1 < w2.heap.size := (by omega); have hv2 : w.heap.size + 1 + 1 < w2.heap.size := (by omega); have HSo := Lib.hid hso; have HAl := Lib.hid hal; clear hb2 hso hal s0 s1 s2 s3 s4 s5 s6 s7 s8 r0 r1 r2; have s0 := HS2.out.cell 0; have s1 := HS2.out.cell 1; have s2 := HS2.out.cell 2; have s3 := HS2.out.cell 3; have s4 := HS2.out.cell 4; have s5 := HS2.out.cell 5; have s6 := HS2.out.cell 6; have s7 := HS2.out.cell 7; have s8 := HS2.out.cell 8; have r0 := HC2.out.cell 0; have r1 := HC2.out.cell 1; have r2 := HC2.out.cell 2; dsimp only [List.getElem?_cons_zero, List.getElem?_cons_succ] at s0 s1 s2 s3 s4 s5 s6 s7 s8 r0 r1 r2)
            | (go_at_call 39; (with_reducible refine (HFi.out _ (HB2.out.alloc (Nat.le_of_lt hy2) _)).mono ?_); rintro e w3 ⟨rfl, hb3⟩; have HB3 := Lib.hid ((HB2.out.alloc (Nat.le_of_lt hy2) _).trans (hb3.mono (HB2.out.alloc (Nat.le_of_lt hy2) _).size)); have HN3 := Lib.hid ((Blk.new w2 52 [.slice s'.ga s'.C.length s'.gk, .slice s'.ta s'.T.length s'.tk, .slice s'.ia s'.L.length s'.ik, .int .i64 s'.c0, .int .i64 s'.c1, .int .i64 s'.c2, .slice s'.ra s'.R.length s'.rk, .int .i64 s'.un, .int .i64 s'.sh]).below hb3); have HS3 := Lib.hid ((HS2.out.alloc _).below hb3); have HC3 := Lib.hid ((HC2.out.alloc _).below hb3); have HR3 := Lib.hid ((HR2.out.alloc _).below hb3); have HO3 := Lib.hid ((HSo.out.mono ((Below.refl _ _).alloc (Nat.le_refl _) _)).mono hb3); have hz3 := hb3.size; (try simp at hz3); clear hb3 s0 s1 s2 s3 s4 s5 s6 s7 s8 r0 r1 r2))
          obtain ⟨zi, hzi, hBi, hlti⟩ := own_blk HO3.out.i (by rw [HAl.out.l]; exact Nat.lt_of_le_of_lt (Nat.zero_le _) (lt_at HY.out.hx))
          have hx' : s'.L[k]? = some x := by rw [HAl.out.l]; exact HY.out.hx
          have hkl := lt_at hx'
          have Hx' := Lib.hid hx'
          obtain ⟨ai, ki, ei, -, hri⟩ := OwnL.isL irow_len (by decide) HO3.out.i
          injection ei with ei ej ek
          clear ej ek
          subst ei
          obtain ⟨bi, oi, hbi, hbwi, hci⟩ := hri (by omega)
          rw [hzi] at hbi
          obtain ⟨rfl, rfl⟩ : zi = bi ∧ 0 = oi := by injection hbi with hbi; injection hbi with h1 h2; exact ⟨h1, h2⟩
          obtain ⟨-, -, e2, e3, -⟩ := irow_cells (hci k x hx')
          simp only [Nat.zero_add] at e2 e3
          have hoi := HO3.out.i
          unfold OwnL at hoi
          rw [hzi] at hoi
          have u2 := hoi.frozenAt (k * 5 + 2)
          have u3 := hoi.frozenAt (k * 5 + 3)
          have y2 := HN3.out.cell 2
          dsimp only [List.getElem?_cons_zero, List.getElem?_cons_succ] at y2
          rw [hzi] at y2
          have hzn : w2.heap.size ≠ zi := (blk_ty HN3.out).ne (own_ty hoi rfl) (by decide)
          have hn3 := HN3.out.lt
          have hL3 : (s'.L.length : Int) ≤ 1000000 := by have := HO.out.lb; rw [HAl.out.l]; omega
          clear hci hx' hoi hbi
          go_region
          obtain ⟨W4, hW4⟩ : ∃ V, V = ((w3.setCell ⟨zi, k * 5 + 2, none⟩ (.int .i64 3)).setCell ⟨zi, k * 5 + 3, none⟩ (.int .i64 1)).drew := ⟨_, rfl⟩
          have hon4 : Only [zi] w3 W4 := by rw [hW4]; exact (((Only.refl _ _).setCell (p := ⟨zi, k * 5 + 2, none⟩) (.inl (List.mem_singleton.2 rfl)) _).setCell (p := ⟨zi, k * 5 + 3, none⟩) (.inl (List.mem_singleton.2 rfl)) _).drew
          have HO4 := Lib.hid (show SOwn w1.heap.size { s' with L := s'.L.set k { x with st := 3, lf := 1 } } W4 from by
            have h9 := (HO3.out.iset (v := .int .i64 3) (y := { x with st := 3 }) hzi Hx'.out (r := 2) (by decide) rfl).iset (k := k) (x := { x with st := 3 }) (y := { x with st := 3, lf := 1 }) (v := .int .i64 1) (r := 3) hzi (by dsimp only; rw [List.getElem?_set_self hkl]) (by decide) rfl
            dsimp only at h9
            rw [List.set_set] at h9
            rw [hW4]
            exact h9.mono (Below.refl _ _).drew)
          have HB4 := Lib.hid (hon4.below HB3.out HB3.out.size (by simp; omega))
          have HN4 := Lib.hid (HN3.out.only hon4 (by rw [List.mem_singleton]; exact hzn))
          have HS4 := Lib.hid (HS3.out.only hon4 (by rw [List.mem_singleton]; omega))
          have HR4 := Lib.hid (HR3.out.only hon4 (by rw [List.mem_singleton]; omega))
          have hz4 := hon4.size
          rw [← hW4]
          clear hW4 hon4 u2 u3 y2 e2 e3 hri hzi
          have s0 := HS4.out.cell 0
          dsimp only [List.getElem?_cons_zero, List.getElem?_cons_succ] at s0
          have hy4 := HS4.out.lt
          have HRs := Lib.hid (show W4.rangeAt w.heap.size 0 [.slice s.ga s.C.length s.gk, .slice s.ta s.T.length s.tk, .slice s.ia s.L.length s.ik, .int .i64 s.c0, .int .i64 s.c1, .int .i64 s.c2, .slice s.ra s.R.length s.rk, .int .i64 s.un, .int .i64 s.sh] from HS4.out.range 0 _ rfl)
          have g1 := (HB4.out.cell (p := ⟨b2, o2 + j * 15 + 1, none⟩) hbw2).trans x1
          have hb24 : b2 < W4.heap.size := Nat.lt_of_lt_of_le hbw2 HB4.out.size
          rw [Hga.out] at s0
          go_wp2
          have hcH := held_cell
          refine region_rel (by kernel_rfl) (by kernel_rfl) ?_
          repeat
            ((with_reducible refine relStep (fun K hK => ?_))
             (have HK := Lib.hid hK)
             clear hK
             (apply relInl
              · intro r n hf
                have Hf := Lib.hid hf
                clear hf
                (first
                  | (((with_reducible refine at_rel (ty := 52) ?_); refine rel_load rfl w.heap.size 0 rfl [.slice s.ga s.C.length s.gk, .slice s.ta s.T.length s.tk, .slice s.ia s.L.length s.ik, .int .i64 s.c0, .int .i64 s.c1, .int .i64 s.c2, .slice s.ra s.R.length s.rk, .int .i64 s.un, .int .i64 s.sh] _ Tryz.underlying52 rfl (by kernel_rfl) (rangeAt_mono HRs.out hy4 n.below) rfl))
                  | (unfold relAt
                     go_simp
                     (first | (refine relUpon_val ?_ (Below.refl _ _); exact rfl) | exact rfl | (refine relUpon_enter ?_; (go_at_call 40; (with_reducible refine (HTg.out _ (HB4.out.trans (n.below.mono HB4.out.size))).mono ?_); rintro e w9 ⟨rfl, hb⟩; exact ⟨⟨_, rfl, rfl⟩, hb⟩)))))
              (simp only [Act.put, List.setIfInBounds_toArray, List.set_cons_zero, List.set_cons_succ])
              (with_reducible refine HK.out _ _ ?_)
              clear HK K))
          refine relNil ?_
          intro r9 n9 hx9
          clear hcH
          (try simp only [List.nil_append, List.cons_append, List.mem_cons, List.not_mem_nil, or_false, forall_eq_or_imp, forall_eq, false_implies, implies_true] at hx9)
          obtain ⟨w9, hb9⟩ := n9
          (try dsimp only)
          obtain ⟨hc9, hf9⟩ := bcell hb9
          have hz9 := hb9.size
          (try simp at hz9)
          have HB9 := Lib.hid (HB4.out.trans (hb9.mono HB4.out.size))
          have HN9 := Lib.hid (HN4.out.below hb9)
          have HR9 := Lib.hid (HR4.out.below hb9)
          have HO9 := Lib.hid (HO4.out.mono hb9)
          have hzw9 : w1.heap.size ≤ w9.heap.size := by omega
          clear hc9 hf9 s0 g1 hb9 HB4 HN4 HR4 HO4
          go_wp2_with (first
            | (go_at_call 37; (with_reducible refine (HGr.out s' w1.heap.size w9 HAl.out HO9.out hzw9).mono ?_); rintro e w4 ⟨rfl, ho4, zt, hzt, hBz, hon⟩; have HB4 := Lib.hid (hon.below HB9.out HB9.out.size (by simp; omega)); have HN4 := Lib.hid (HN9.out.only hon (by rw [List.mem_singleton]; exact (blk_ty HN9.out).ne (own_ty HO9.out.t (by (try dsimp only); rw [hzt]; rfl)) (by decide))); have HR4 := Lib.hid (HR9.out.only hon (by rw [List.mem_singleton]; omega)); have HO4 := Lib.hid ho4; have hz4 := hon.size; clear ho4 hon)
            | ((with_reducible refine at_load (ty := 52) ?_); refine load_cells rfl 52 (.tmp 7) rfl w2.heap.size 0 rfl [.slice s'.ga s'.C.length s'.gk, .slice s'.ta s'.T.length s'.tk, .slice s'.ia s'.L.length s'.ik, .int .i64 s'.c0, .int .i64 s'.c1, .int .i64 s'.c2, .slice s'.ra s'.R.length s'.rk, .int .i64 s'.un, .int .i64 s'.sh] _ Tryz.underlying52 rfl (by kernel_rfl) (HN4.out.range 0 _ rfl) ?_)
            | ((with_reducible refine at_load (ty := 52) ?_); refine load_cells rfl 52 (.tmp 7) rfl w2.heap.size 0 rfl [.slice s'.ga s'.C.length s'.gk, .slice s'.ta s'.T.length s'.tk, .slice s'.ia s'.L.length s'.ik, .int .i64 s'.c0, .int .i64 s'.c1, .int .i64 s'.c2, .slice s'.ra s'.R.length s'.rk, .int .i64 s'.un, .int .i64 s'.sh] _ Tryz.underlying52 rfl (by kernel_rfl) (HN9.out.range 0 _ rfl) ?_)
            | ((with_reducible refine at_store (ty := 52) ?_); refine wpList_store_mid rfl 52 (.tmp 4) (.tmp 74) rfl (w.heap.size + 1 + 1) 0 _ rfl rfl (HR4.out.there 0 9 (Nat.le_of_ble_eq_true rfl)) (by kernel_rfl) (by rw [← Array.all_toList]; rfl) ?_; obtain ⟨W5, hW5⟩ : ∃ W5, W5 = w4.setCells (w.heap.size + 1 + 1) 0 [.slice s'.ga s'.C.length s'.gk, .slice s'.ta s'.T.length s'.tk, .slice s'.ia s'.L.length s'.ik, .int .i64 s'.c0, .int .i64 s'.c1, .int .i64 s'.c2, .slice s'.ra s'.R.length s'.rk, .int .i64 s'.un, .int .i64 s'.sh] := ⟨_, rfl⟩; (show wpList _ _ _ _ _ (w4.setCells (w.heap.size + 1 + 1) 0 [.slice s'.ga s'.C.length s'.gk, .slice s'.ta s'.T.length s'.tk, .slice s'.ia s'.L.length s'.ik, .int .i64 s'.c0, .int .i64 s'.c1, .int .i64 s'.c2, .slice s'.ra s'.R.length s'.rk, .int .i64 s'.un, .int .i64 s'.sh])); rw [← hW5]; have HO5 := Lib.hid (show Only [w.heap.size + 1 + 1] w4 W5 from by rw [hW5]; exact Only.setCells (.inl (by simp)) (Only.refl _ _) _ _); have HY5 := Lib.hid (show Blk W5 (w.heap.size + 1 + 1) 52 [.slice s'.ga s'.C.length s'.gk, .slice s'.ta s'.T.length s'.tk, .slice s'.ia s'.L.length s'.ik, .int .i64 s'.c0, .int .i64 s'.c1, .int .i64 s'.c2, .slice s'.ra s'.R.length s'.rk, .int .i64 s'.un, .int .i64 s'.sh] from by rw [hW5]; exact HR4.out.setCells 0 _); clear hW5))
          have c0 := HY5.out.cell 0
          have c1 := HY5.out.cell 1
          have c2 := HY5.out.cell 2
          have c3 := HY5.out.cell 3
          have c4 := HY5.out.cell 4
          have c5 := HY5.out.cell 5
          have c6 := HY5.out.cell 6
          have c7 := HY5.out.cell 7
          have c8 := HY5.out.cell 8
          dsimp only [List.getElem?_cons_zero, List.getElem?_cons_succ] at c0 c1 c2 c3 c4 c5 c6 c7 c8
          refine bodyPost_ret (v := .tuple #[.agg #[.slice s'.ga s'.C.length s'.gk, .slice s'.ta s'.T.length s'.tk, .slice s'.ia s'.L.length s'.ik, .int .i64 s'.c0, .int .i64 s'.c1, .int .i64 s'.c2, .slice s'.ra s'.R.length s'.rk, .int .i64 s'.un, .int .i64 s'.sh], .int .i64 0]) (by simp [results, Tryz.results17, go_sem, *]) rfl ⟨⟨b, Hbb.out, .inr ⟨Hz.out.trans h0, Hfin.out s' w1.heap.size _ _ HAl.out (by omega) HO4.out HO5.out⟩⟩, HO5.out.below HB4.out (by omega) (by simp; omega)⟩
      · have k6 : decide (mn < t) = false := decide_eq_false hlm
        have Hfin := Lib.hid (fun (s' : St) (B : Nat) (V V' : World) (hal : PAl s s') => Hfn.out s' s'.T B V V' hal (by rw [if_neg hlm, hal.t]) rfl)
        rcases hkd with k1 | ⟨k1, k2⟩
        · go_wp2_with (first
            | (go_at_call 35; (with_reducible refine (HCp.out _ HB1.out).mono ?_); rintro e w2 ⟨⟨s', rfl, hso, hal⟩, hb2⟩; have HB2 := Lib.hid (HB1.out.trans (hb2.mono HB1.out.size)); have HS2 := Lib.hid (HS1.out.below hb2); have HC2 := Lib.hid (HC1.out.below hb2); have HR2 := Lib.hid (HR1.out.below hb2); have hz2 := hb2.size; have hy2 : w.heap.size < w2.heap.size := (by omega); have hx2 : w.heap.size + 1 < w2.heap.size := (by omega); have hv2 : w.heap.size + 1 + 1 < w2.heap.size := (by omega); have HSo := Lib.hid hso; have HAl := Lib.hid hal; clear hb2 hso hal s0 s1 s2 s3 s4 s5 s6 s7 s8 r0 r1 r2; have s0 := HS2.out.cell 0; have s1 := HS2.out.cell 1; have s2 := HS2.out.cell 2; have s3 := HS2.out.cell 3; have s4 := HS2.out.cell 4; have s5 := HS2.out.cell 5; have s6 := HS2.out.cell 6; have s7 := HS2.out.cell 7; have s8 := HS2.out.cell 8; have r0 := HC2.out.cell 0; have r1 := HC2.out.cell 1; have r2 := HC2.out.cell 2; dsimp only [List.getElem?_cons_zero, List.getElem?_cons_succ] at s0 s1 s2 s3 s4 s5 s6 s7 s8 r0 r1 r2)
            | (go_at_call 39; (with_reducible refine (HFi.out _ (HB2.out.alloc (Nat.le_of_lt hy2) _)).mono ?_); rintro e w3 ⟨rfl, hb3⟩; have HB3 := Lib.hid ((HB2.out.alloc (Nat.le_of_lt hy2) _).trans (hb3.mono (HB2.out.alloc (Nat.le_of_lt hy2) _).size)); have HN3 := Lib.hid ((Blk.new w2 52 [.slice s'.ga s'.C.length s'.gk, .slice s'.ta s'.T.length s'.tk, .slice s'.ia s'.L.length s'.ik, .int .i64 s'.c0, .int .i64 s'.c1, .int .i64 s'.c2, .slice s'.ra s'.R.length s'.rk, .int .i64 s'.un, .int .i64 s'.sh]).below hb3); have HS3 := Lib.hid ((HS2.out.alloc _).below hb3); have HC3 := Lib.hid ((HC2.out.alloc _).below hb3); have HR3 := Lib.hid ((HR2.out.alloc _).below hb3); have HO3 := Lib.hid ((HSo.out.mono ((Below.refl _ _).alloc (Nat.le_refl _) _)).mono hb3); have hz3 := hb3.size; (try simp at hz3); clear hb3 s0 s1 s2 s3 s4 s5 s6 s7 s8 r0 r1 r2))
          obtain ⟨zi, hzi, hBi, hlti⟩ := own_blk HO3.out.i (by rw [HAl.out.l]; exact Nat.lt_of_le_of_lt (Nat.zero_le _) (lt_at HY.out.hx))
          have hx' : s'.L[k]? = some x := by rw [HAl.out.l]; exact HY.out.hx
          have hkl := lt_at hx'
          have Hx' := Lib.hid hx'
          obtain ⟨ai, ki, ei, -, hri⟩ := OwnL.isL irow_len (by decide) HO3.out.i
          injection ei with ei ej ek
          clear ej ek
          subst ei
          obtain ⟨bi, oi, hbi, hbwi, hci⟩ := hri (by omega)
          rw [hzi] at hbi
          obtain ⟨rfl, rfl⟩ : zi = bi ∧ 0 = oi := by injection hbi with hbi; injection hbi with h1 h2; exact ⟨h1, h2⟩
          obtain ⟨-, -, e2, e3, -⟩ := irow_cells (hci k x hx')
          simp only [Nat.zero_add] at e2 e3
          have hoi := HO3.out.i
          unfold OwnL at hoi
          rw [hzi] at hoi
          have u2 := hoi.frozenAt (k * 5 + 2)
          have u3 := hoi.frozenAt (k * 5 + 3)
          have y2 := HN3.out.cell 2
          dsimp only [List.getElem?_cons_zero, List.getElem?_cons_succ] at y2
          rw [hzi] at y2
          have hzn : w2.heap.size ≠ zi := (blk_ty HN3.out).ne (own_ty hoi rfl) (by decide)
          have hn3 := HN3.out.lt
          have hL3 : (s'.L.length : Int) ≤ 1000000 := by have := HO.out.lb; rw [HAl.out.l]; omega
          clear hci hx' hoi hbi
          go_region
          obtain ⟨W4, hW4⟩ : ∃ V, V = ((w3.setCell ⟨zi, k * 5 + 2, none⟩ (.int .i64 3)).setCell ⟨zi, k * 5 + 3, none⟩ (.int .i64 1)).drew := ⟨_, rfl⟩
          have hon4 : Only [zi] w3 W4 := by rw [hW4]; exact (((Only.refl _ _).setCell (p := ⟨zi, k * 5 + 2, none⟩) (.inl (List.mem_singleton.2 rfl)) _).setCell (p := ⟨zi, k * 5 + 3, none⟩) (.inl (List.mem_singleton.2 rfl)) _).drew
          have HO4 := Lib.hid (show SOwn w1.heap.size { s' with L := s'.L.set k { x with st := 3, lf := 1 } } W4 from by
            have h9 := (HO3.out.iset (v := .int .i64 3) (y := { x with st := 3 }) hzi Hx'.out (r := 2) (by decide) rfl).iset (k := k) (x := { x with st := 3 }) (y := { x with st := 3, lf := 1 }) (v := .int .i64 1) (r := 3) hzi (by dsimp only; rw [List.getElem?_set_self hkl]) (by decide) rfl
            dsimp only at h9
            rw [List.set_set] at h9
            rw [hW4]
            exact h9.mono (Below.refl _ _).drew)
          have HB4 := Lib.hid (hon4.below HB3.out HB3.out.size (by simp; omega))
          have HN4 := Lib.hid (HN3.out.only hon4 (by rw [List.mem_singleton]; exact hzn))
          have HS4 := Lib.hid (HS3.out.only hon4 (by rw [List.mem_singleton]; omega))
          have HR4 := Lib.hid (HR3.out.only hon4 (by rw [List.mem_singleton]; omega))
          have hz4 := hon4.size
          rw [← hW4]
          clear hW4 hon4 u2 u3 y2 e2 e3 hri hzi
          have s0 := HS4.out.cell 0
          dsimp only [List.getElem?_cons_zero, List.getElem?_cons_succ] at s0
          have hy4 := HS4.out.lt
          have HRs := Lib.hid (show W4.rangeAt w.heap.size 0 [.slice s.ga s.C.length s.gk, .slice s.ta s.T.length s.tk, .slice s.ia s.L.length s.ik, .int .i64 s.c0, .int .i64 s.c1, .int .i64 s.c2, .slice s.ra s.R.length s.rk, .int .i64 s.un, .int .i64 s.sh] from HS4.out.range 0 _ rfl)
          have g1 := (HB4.out.cell (p := ⟨b2, o2 + j * 15 + 1, none⟩) hbw2).trans x1
          have hb24 : b2 < W4.heap.size := Nat.lt_of_lt_of_le hbw2 HB4.out.size
          rw [Hga.out] at s0
          go_wp2
          have hcH := held_cell
          refine region_rel (by kernel_rfl) (by kernel_rfl) ?_
          repeat
            ((with_reducible refine relStep (fun K hK => ?_))
             (have HK := Lib.hid hK)
             clear hK
             (apply relInl
              · intro r n hf
                have Hf := Lib.hid hf
                clear hf
                (first
                  | (((with_reducible refine at_rel (ty := 52) ?_); refine rel_load rfl w.heap.size 0 rfl [.slice s.ga s.C.length s.gk, .slice s.ta s.T.length s.tk, .slice s.ia s.L.length s.ik, .int .i64 s.c0, .int .i64 s.c1, .int .i64 s.c2, .slice s.ra s.R.length s.rk, .int .i64 s.un, .int .i64 s.sh] _ Tryz.underlying52 rfl (by kernel_rfl) (rangeAt_mono HRs.out hy4 n.below) rfl))
                  | (unfold relAt
                     go_simp
                     (first | (refine relUpon_val ?_ (Below.refl _ _); exact rfl) | exact rfl | (refine relUpon_enter ?_; (go_at_call 40; (with_reducible refine (HTg.out _ (HB4.out.trans (n.below.mono HB4.out.size))).mono ?_); rintro e w9 ⟨rfl, hb⟩; exact ⟨⟨_, rfl, rfl⟩, hb⟩)))))
              (simp only [Act.put, List.setIfInBounds_toArray, List.set_cons_zero, List.set_cons_succ])
              (with_reducible refine HK.out _ _ ?_)
              clear HK K))
          refine relNil ?_
          intro r9 n9 hx9
          clear hcH
          (try simp only [List.nil_append, List.cons_append, List.mem_cons, List.not_mem_nil, or_false, forall_eq_or_imp, forall_eq, false_implies, implies_true] at hx9)
          obtain ⟨w9, hb9⟩ := n9
          (try dsimp only)
          obtain ⟨hc9, hf9⟩ := bcell hb9
          have hz9 := hb9.size
          (try simp at hz9)
          have HB9 := Lib.hid (HB4.out.trans (hb9.mono HB4.out.size))
          have HN9 := Lib.hid (HN4.out.below hb9)
          have HR9 := Lib.hid (HR4.out.below hb9)
          have HO9 := Lib.hid (HO4.out.mono hb9)
          have hzw9 : w1.heap.size ≤ w9.heap.size := by omega
          clear hc9 hf9 s0 g1 hb9 HB4 HN4 HR4 HO4
          go_wp2_with (first
            | ((with_reducible refine at_load (ty := 52) ?_); refine load_cells rfl 52 (.tmp 7) rfl w2.heap.size 0 rfl [.slice s'.ga s'.C.length s'.gk, .slice s'.ta s'.T.length s'.tk, .slice s'.ia s'.L.length s'.ik, .int .i64 s'.c0, .int .i64 s'.c1, .int .i64 s'.c2, .slice s'.ra s'.R.length s'.rk, .int .i64 s'.un, .int .i64 s'.sh] _ Tryz.underlying52 rfl (by kernel_rfl) (HN9.out.range 0 _ rfl) ?_)
            | ((with_reducible refine at_store (ty := 52) ?_); refine wpList_store_mid rfl 52 (.tmp 4) (.tmp 74) rfl (w.heap.size + 1 + 1) 0 _ rfl rfl (HR9.out.there 0 9 (Nat.le_of_ble_eq_true rfl)) (by kernel_rfl) (by rw [← Array.all_toList]; rfl) ?_; obtain ⟨W5, hW5⟩ : ∃ W5, W5 = w9.setCells (w.heap.size + 1 + 1) 0 [.slice s'.ga s'.C.length s'.gk, .slice s'.ta s'.T.length s'.tk, .slice s'.ia s'.L.length s'.ik, .int .i64 s'.c0, .int .i64 s'.c1, .int .i64 s'.c2, .slice s'.ra s'.R.length s'.rk, .int .i64 s'.un, .int .i64 s'.sh] := ⟨_, rfl⟩; (show wpList _ _ _ _ _ (w9.setCells (w.heap.size + 1 + 1) 0 [.slice s'.ga s'.C.length s'.gk, .slice s'.ta s'.T.length s'.tk, .slice s'.ia s'.L.length s'.ik, .int .i64 s'.c0, .int .i64 s'.c1, .int .i64 s'.c2, .slice s'.ra s'.R.length s'.rk, .int .i64 s'.un, .int .i64 s'.sh])); rw [← hW5]; have HO5 := Lib.hid (show Only [w.heap.size + 1 + 1] w9 W5 from by rw [hW5]; exact Only.setCells (.inl (by simp)) (Only.refl _ _) _ _); have HY5 := Lib.hid (show Blk W5 (w.heap.size + 1 + 1) 52 [.slice s'.ga s'.C.length s'.gk, .slice s'.ta s'.T.length s'.tk, .slice s'.ia s'.L.length s'.ik, .int .i64 s'.c0, .int .i64 s'.c1, .int .i64 s'.c2, .slice s'.ra s'.R.length s'.rk, .int .i64 s'.un, .int .i64 s'.sh] from by rw [hW5]; exact HR9.out.setCells 0 _); clear hW5))
          have c0 := HY5.out.cell 0
          have c1 := HY5.out.cell 1
          have c2 := HY5.out.cell 2
          have c3 := HY5.out.cell 3
          have c4 := HY5.out.cell 4
          have c5 := HY5.out.cell 5
          have c6 := HY5.out.cell 6
          have c7 := HY5.out.cell 7
          have c8 := HY5.out.cell 8
          dsimp only [List.getElem?_cons_zero, List.getElem?_cons_succ] at c0 c1 c2 c3 c4 c5 c6 c7 c8
          refine bodyPost_ret (v := .tuple #[.agg #[.slice s'.ga s'.C.length s'.gk, .slice s'.ta s'.T.length s'.tk, .slice s'.ia s'.L.length s'.ik, .int .i64 s'.c0, .int .i64 s'.c1, .int .i64 s'.c2, .slice s'.ra s'.R.length s'.rk, .int .i64 s'.un, .int .i64 s'.sh], .int .i64 0]) (by simp [results, Tryz.results17, go_sem, *]) rfl ⟨⟨b, Hbb.out, .inr ⟨Hz.out.trans h0, Hfin.out s' w1.heap.size _ _ HAl.out (by omega) HO9.out HO5.out⟩⟩, HO5.out.below HB9.out (by omega) (by simp; omega)⟩
        · go_wp2_with (first
            | (go_at_call 35; (with_reducible refine (HCp.out _ HB1.out).mono ?_); rintro e w2 ⟨⟨s', rfl, hso, hal⟩, hb2⟩; have HB2 := Lib.hid (HB1.out.trans (hb2.mono HB1.out.size)); have HS2 := Lib.hid (HS1.out.below hb2); have HC2 := Lib.hid (HC1.out.below hb2); have HR2 := Lib.hid (HR1.out.below hb2); have hz2 := hb2.size; have hy2 : w.heap.size < w2.heap.size := (by omega); have hx2 : w.heap.size + 1 < w2.heap.size := (by omega); have hv2 : w.heap.size + 1 + 1 < w2.heap.size := (by omega); have HSo := Lib.hid hso; have HAl := Lib.hid hal; clear hb2 hso hal s0 s1 s2 s3 s4 s5 s6 s7 s8 r0 r1 r2; have s0 := HS2.out.cell 0; have s1 := HS2.out.cell 1; have s2 := HS2.out.cell 2; have s3 := HS2.out.cell 3; have s4 := HS2.out.cell 4; have s5 := HS2.out.cell 5; have s6 := HS2.out.cell 6; have s7 := HS2.out.cell 7; have s8 := HS2.out.cell 8; have r0 := HC2.out.cell 0; have r1 := HC2.out.cell 1; have r2 := HC2.out.cell 2; dsimp only [List.getElem?_cons_zero, List.getElem?_cons_succ] at s0 s1 s2 s3 s4 s5 s6 s7 s8 r0 r1 r2)
            | (go_at_call 39; (with_reducible refine (HFi.out _ (HB2.out.alloc (Nat.le_of_lt hy2) _)).mono ?_); rintro e w3 ⟨rfl, hb3⟩; have HB3 := Lib.hid ((HB2.out.alloc (Nat.le_of_lt hy2) _).trans (hb3.mono (HB2.out.alloc (Nat.le_of_lt hy2) _).size)); have HN3 := Lib.hid ((Blk.new w2 52 [.slice s'.ga s'.C.length s'.gk, .slice s'.ta s'.T.length s'.tk, .slice s'.ia s'.L.length s'.ik, .int .i64 s'.c0, .int .i64 s'.c1, .int .i64 s'.c2, .slice s'.ra s'.R.length s'.rk, .int .i64 s'.un, .int .i64 s'.sh]).below hb3); have HS3 := Lib.hid ((HS2.out.alloc _).below hb3); have HC3 := Lib.hid ((HC2.out.alloc _).below hb3); have HR3 := Lib.hid ((HR2.out.alloc _).below hb3); have HO3 := Lib.hid ((HSo.out.mono ((Below.refl _ _).alloc (Nat.le_refl _) _)).mono hb3); have hz3 := hb3.size; (try simp at hz3); clear hb3 s0 s1 s2 s3 s4 s5 s6 s7 s8 r0 r1 r2))
          obtain ⟨zi, hzi, hBi, hlti⟩ := own_blk HO3.out.i (by rw [HAl.out.l]; exact Nat.lt_of_le_of_lt (Nat.zero_le _) (lt_at HY.out.hx))
          have hx' : s'.L[k]? = some x := by rw [HAl.out.l]; exact HY.out.hx
          have hkl := lt_at hx'
          have Hx' := Lib.hid hx'
          obtain ⟨ai, ki, ei, -, hri⟩ := OwnL.isL irow_len (by decide) HO3.out.i
          injection ei with ei ej ek
          clear ej ek
          subst ei
          obtain ⟨bi, oi, hbi, hbwi, hci⟩ := hri (by omega)
          rw [hzi] at hbi
          obtain ⟨rfl, rfl⟩ : zi = bi ∧ 0 = oi := by injection hbi with hbi; injection hbi with h1 h2; exact ⟨h1, h2⟩
          obtain ⟨-, -, e2, e3, -⟩ := irow_cells (hci k x hx')
          simp only [Nat.zero_add] at e2 e3
          have hoi := HO3.out.i
          unfold OwnL at hoi
          rw [hzi] at hoi
          have u2 := hoi.frozenAt (k * 5 + 2)
          have u3 := hoi.frozenAt (k * 5 + 3)
          have y2 := HN3.out.cell 2
          dsimp only [List.getElem?_cons_zero, List.getElem?_cons_succ] at y2
          rw [hzi] at y2
          have hzn : w2.heap.size ≠ zi := (blk_ty HN3.out).ne (own_ty hoi rfl) (by decide)
          have hn3 := HN3.out.lt
          have hL3 : (s'.L.length : Int) ≤ 1000000 := by have := HO.out.lb; rw [HAl.out.l]; omega
          clear hci hx' hoi hbi
          go_region
          obtain ⟨W4, hW4⟩ : ∃ V, V = ((w3.setCell ⟨zi, k * 5 + 2, none⟩ (.int .i64 3)).setCell ⟨zi, k * 5 + 3, none⟩ (.int .i64 1)).drew := ⟨_, rfl⟩
          have hon4 : Only [zi] w3 W4 := by rw [hW4]; exact (((Only.refl _ _).setCell (p := ⟨zi, k * 5 + 2, none⟩) (.inl (List.mem_singleton.2 rfl)) _).setCell (p := ⟨zi, k * 5 + 3, none⟩) (.inl (List.mem_singleton.2 rfl)) _).drew
          have HO4 := Lib.hid (show SOwn w1.heap.size { s' with L := s'.L.set k { x with st := 3, lf := 1 } } W4 from by
            have h9 := (HO3.out.iset (v := .int .i64 3) (y := { x with st := 3 }) hzi Hx'.out (r := 2) (by decide) rfl).iset (k := k) (x := { x with st := 3 }) (y := { x with st := 3, lf := 1 }) (v := .int .i64 1) (r := 3) hzi (by dsimp only; rw [List.getElem?_set_self hkl]) (by decide) rfl
            dsimp only at h9
            rw [List.set_set] at h9
            rw [hW4]
            exact h9.mono (Below.refl _ _).drew)
          have HB4 := Lib.hid (hon4.below HB3.out HB3.out.size (by simp; omega))
          have HN4 := Lib.hid (HN3.out.only hon4 (by rw [List.mem_singleton]; exact hzn))
          have HS4 := Lib.hid (HS3.out.only hon4 (by rw [List.mem_singleton]; omega))
          have HR4 := Lib.hid (HR3.out.only hon4 (by rw [List.mem_singleton]; omega))
          have hz4 := hon4.size
          rw [← hW4]
          clear hW4 hon4 u2 u3 y2 e2 e3 hri hzi
          have s0 := HS4.out.cell 0
          dsimp only [List.getElem?_cons_zero, List.getElem?_cons_succ] at s0
          have hy4 := HS4.out.lt
          have HRs := Lib.hid (show W4.rangeAt w.heap.size 0 [.slice s.ga s.C.length s.gk, .slice s.ta s.T.length s.tk, .slice s.ia s.L.length s.ik, .int .i64 s.c0, .int .i64 s.c1, .int .i64 s.c2, .slice s.ra s.R.length s.rk, .int .i64 s.un, .int .i64 s.sh] from HS4.out.range 0 _ rfl)
          have g1 := (HB4.out.cell (p := ⟨b2, o2 + j * 15 + 1, none⟩) hbw2).trans x1
          have hb24 : b2 < W4.heap.size := Nat.lt_of_lt_of_le hbw2 HB4.out.size
          rw [Hga.out] at s0
          go_wp2
          have hcH := held_cell
          refine region_rel (by kernel_rfl) (by kernel_rfl) ?_
          repeat
            ((with_reducible refine relStep (fun K hK => ?_))
             (have HK := Lib.hid hK)
             clear hK
             (apply relInl
              · intro r n hf
                have Hf := Lib.hid hf
                clear hf
                (first
                  | (((with_reducible refine at_rel (ty := 52) ?_); refine rel_load rfl w.heap.size 0 rfl [.slice s.ga s.C.length s.gk, .slice s.ta s.T.length s.tk, .slice s.ia s.L.length s.ik, .int .i64 s.c0, .int .i64 s.c1, .int .i64 s.c2, .slice s.ra s.R.length s.rk, .int .i64 s.un, .int .i64 s.sh] _ Tryz.underlying52 rfl (by kernel_rfl) (rangeAt_mono HRs.out hy4 n.below) rfl))
                  | (unfold relAt
                     go_simp
                     (first | (refine relUpon_val ?_ (Below.refl _ _); exact rfl) | exact rfl | (refine relUpon_enter ?_; (go_at_call 40; (with_reducible refine (HTg.out _ (HB4.out.trans (n.below.mono HB4.out.size))).mono ?_); rintro e w9 ⟨rfl, hb⟩; exact ⟨⟨_, rfl, rfl⟩, hb⟩)))))
              (simp only [Act.put, List.setIfInBounds_toArray, List.set_cons_zero, List.set_cons_succ])
              (with_reducible refine HK.out _ _ ?_)
              clear HK K))
          refine relNil ?_
          intro r9 n9 hx9
          clear hcH
          (try simp only [List.nil_append, List.cons_append, List.mem_cons, List.not_mem_nil, or_false, forall_eq_or_imp, forall_eq, false_implies, implies_true] at hx9)
          obtain ⟨w9, hb9⟩ := n9
          (try dsimp only)
          obtain ⟨hc9, hf9⟩ := bcell hb9
          have hz9 := hb9.size
          (try simp at hz9)
          have HB9 := Lib.hid (HB4.out.trans (hb9.mono HB4.out.size))
          have HN9 := Lib.hid (HN4.out.below hb9)
          have HR9 := Lib.hid (HR4.out.below hb9)
          have HO9 := Lib.hid (HO4.out.mono hb9)
          have hzw9 : w1.heap.size ≤ w9.heap.size := by omega
          clear hc9 hf9 s0 g1 hb9 HB4 HN4 HR4 HO4
          go_wp2_with (first
            | ((with_reducible refine at_load (ty := 52) ?_); refine load_cells rfl 52 (.tmp 7) rfl w2.heap.size 0 rfl [.slice s'.ga s'.C.length s'.gk, .slice s'.ta s'.T.length s'.tk, .slice s'.ia s'.L.length s'.ik, .int .i64 s'.c0, .int .i64 s'.c1, .int .i64 s'.c2, .slice s'.ra s'.R.length s'.rk, .int .i64 s'.un, .int .i64 s'.sh] _ Tryz.underlying52 rfl (by kernel_rfl) (HN9.out.range 0 _ rfl) ?_)
            | ((with_reducible refine at_store (ty := 52) ?_); refine wpList_store_mid rfl 52 (.tmp 4) (.tmp 74) rfl (w.heap.size + 1 + 1) 0 _ rfl rfl (HR9.out.there 0 9 (Nat.le_of_ble_eq_true rfl)) (by kernel_rfl) (by rw [← Array.all_toList]; rfl) ?_; obtain ⟨W5, hW5⟩ : ∃ W5, W5 = w9.setCells (w.heap.size + 1 + 1) 0 [.slice s'.ga s'.C.length s'.gk, .slice s'.ta s'.T.length s'.tk, .slice s'.ia s'.L.length s'.ik, .int .i64 s'.c0, .int .i64 s'.c1, .int .i64 s'.c2, .slice s'.ra s'.R.length s'.rk, .int .i64 s'.un, .int .i64 s'.sh] := ⟨_, rfl⟩; (show wpList _ _ _ _ _ (w9.setCells (w.heap.size + 1 + 1) 0 [.slice s'.ga s'.C.length s'.gk, .slice s'.ta s'.T.length s'.tk, .slice s'.ia s'.L.length s'.ik, .int .i64 s'.c0, .int .i64 s'.c1, .int .i64 s'.c2, .slice s'.ra s'.R.length s'.rk, .int .i64 s'.un, .int .i64 s'.sh])); rw [← hW5]; have HO5 := Lib.hid (show Only [w.heap.size + 1 + 1] w9 W5 from by rw [hW5]; exact Only.setCells (.inl (by simp)) (Only.refl _ _) _ _); have HY5 := Lib.hid (show Blk W5 (w.heap.size + 1 + 1) 52 [.slice s'.ga s'.C.length s'.gk, .slice s'.ta s'.T.length s'.tk, .slice s'.ia s'.L.length s'.ik, .int .i64 s'.c0, .int .i64 s'.c1, .int .i64 s'.c2, .slice s'.ra s'.R.length s'.rk, .int .i64 s'.un, .int .i64 s'.sh] from by rw [hW5]; exact HR9.out.setCells 0 _); clear hW5))
          have c0 := HY5.out.cell 0
          have c1 := HY5.out.cell 1
          have c2 := HY5.out.cell 2
          have c3 := HY5.out.cell 3
          have c4 := HY5.out.cell 4
          have c5 := HY5.out.cell 5
          have c6 := HY5.out.cell 6
          have c7 := HY5.out.cell 7
          have c8 := HY5.out.cell 8
          dsimp only [List.getElem?_cons_zero, List.getElem?_cons_succ] at c0 c1 c2 c3 c4 c5 c6 c7 c8
          refine bodyPost_ret (v := .tuple #[.agg #[.slice s'.ga s'.C.length s'.gk, .slice s'.ta s'.T.length s'.tk, .slice s'.ia s'.L.length s'.ik, .int .i64 s'.c0, .int .i64 s'.c1, .int .i64 s'.c2, .slice s'.ra s'.R.length s'.rk, .int .i64 s'.un, .int .i64 s'.sh], .int .i64 0]) (by simp [results, Tryz.results17, go_sem, *]) rfl ⟨⟨b, Hbb.out, .inr ⟨Hz.out.trans h0, Hfin.out s' w1.heap.size _ _ HAl.out (by omega) HO9.out HO5.out⟩⟩, HO5.out.below HB9.out (by omega) (by simp; omega)⟩
  · have c0 := HY5.out.cell 0
    have c1 := HY5.out.cell 1
    have c2 := HY5.out.cell 2
    have c3 := HY5.out.cell 3
    have c4 := HY5.out.cell 4
    have c5 := HY5.out.cell 5
    have c6 := HY5.out.cell 6
    have c7 := HY5.out.cell 7
    have c8 := HY5.out.cell 8
    dsimp only [List.getElem?_cons_zero, List.getElem?_cons_succ] at c0 c1 c2 c3 c4 c5 c6 c7 c8
    refine bodyPost_ret (v := .tuple #[.agg #[.slice none 0 0, .slice none 0 0, .slice none 0 0, .int .i64 0, .int .i64 0, .int .i64 0, .slice none 0 0, .int .i64 0, .int .i64 0], .int .i64 z]) (by simp [results, Tryz.results17, go_sem, *]) rfl ⟨⟨b, Hbb.out, .inl ⟨z, h0, Hz.out, rfl⟩⟩, HO5.out.below HB1.out (by omega) (by simp; omega)⟩
end Go.Proofs.YtmkdfcggjlhcpaaGreatDoor
