/-
  The document's table: Fail, of a group that is there.
-/
import Derived.Test.YtedombidblhmeaaBkRef5
import Derived.Laws.OwnMore
namespace Go.Proofs.Ytedombidblhmeaa
open Go.RowKit
set_option linter.unusedVariables false
set_option linter.unusedSimpArgs false

/-- What the walk reads. -/
structure RF (w : World) (p b n kc k X : Nat) (fi mo re l u l2 : Int) : Prop where
  c0 : w.cell? ⟨p, 0, none⟩ = some (.slice (some ⟨b, 0, none⟩) n kc)
  c1 : w.cell? ⟨p, 1, none⟩ = some (.int .i64 fi)
  c2 : w.cell? ⟨p, 2, none⟩ = some (.int .i64 mo)
  c3 : w.cell? ⟨p, 3, none⟩ = some (.int .i64 re)
  d1 : w.cell? ⟨b, k * 3 + 1, none⟩ = some (.int .i64 l2)
  d2 : w.cell? ⟨b, k * 3 + 2, none⟩ = some (.int .i64 u)
  x1 : w.cell? ⟨X, 1, none⟩ = some (.int .i64 l)
  x2 : w.cell? ⟨X, 2, none⟩ = some (.int .i64 u)
  f1 : w.frozen? ⟨b, k * 3 + 1, none⟩ = false
  f2 : w.frozen? ⟨b, k * 3 + 2, none⟩ = false
  hp : p < w.heap.size
  hb : b < w.heap.size
  hX : X < w.heap.size
theorem RF.below {w w' : World} {p b n kc k X : Nat} {fi mo re l u l2 : Int} (h : RF w p b n kc k X fi mo re l u l2) (hB : Below w.heap.size w w') : RF w' p b n kc k X fi mo re l u l2 := by
  obtain ⟨hc, hf⟩ := bcell hB
  have := hB.size
  exact ⟨by rw [hc _ _ h.hp]; exact h.c0, by rw [hc _ _ h.hp]; exact h.c1, by rw [hc _ _ h.hp]; exact h.c2, by rw [hc _ _ h.hp]; exact h.c3, by rw [hc _ _ h.hb]; exact h.d1, by rw [hc _ _ h.hb]; exact h.d2, by rw [hc _ _ h.hX]; exact h.x1, by rw [hc _ _ h.hX]; exact h.x2, by rw [hf _ _ h.hb]; exact h.f1, by rw [hf _ _ h.hb]; exact h.f2, by have := h.hp; omega, by have := h.hb; omega, by have := h.hX; omega⟩
theorem RF.set {w : World} {p b n kc k X : Nat} {fi mo re l u l2 : Int} (h : RF w p b n kc k X fi mo re l u l2) (hbp : b ≠ p) (hbX : b ≠ X) (l3 : Int) : RF (w.setCell ⟨b, k * 3 + 1, none⟩ (.int .i64 l3)) p b n kc k X fi mo re l u l3 := by
  have hc : ∀ q o : Nat, (q ≠ b ∨ o ≠ k * 3 + 1) → (w.setCell ⟨b, k * 3 + 1, none⟩ (.int .i64 l3)).cell? ⟨q, o, none⟩ = w.cell? ⟨q, o, none⟩ := fun q o h => World.cell?_setCell_other _ _ _ _ (fun e => by
    injection e with e1 e2
    rcases h with h | h
    · exact h e1.symm
    · exact h e2.symm)
  have hz : (w.setCell ⟨b, k * 3 + 1, none⟩ (.int .i64 l3)).heap.size = w.heap.size := by simp [World.setCell]
  exact ⟨by rw [hc _ _ (.inl hbp.symm)]; exact h.c0, by rw [hc _ _ (.inl hbp.symm)]; exact h.c1, by rw [hc _ _ (.inl hbp.symm)]; exact h.c2, by rw [hc _ _ (.inl hbp.symm)]; exact h.c3, World.cell?_setCell_same _ _ _ h.d1, by rw [hc _ _ (.inr (by omega))]; exact h.d2, by rw [hc _ _ (.inl hbX.symm)]; exact h.x1, by rw [hc _ _ (.inl hbX.symm)]; exact h.x2, by rw [World.frozen?_setCell]; exact h.f1, by rw [World.frozen?_setCell]; exact h.f2, by rw [hz]; exact h.hp, by rw [hz]; exact h.hb, by rw [hz]; exact h.hX⟩
theorem rows_set (l2 u2 n2 : Int) : ∀ (M : List Nt) (k : Nat) (x : Nt), M[k]? = some x → ((M.flatMap ntc).set (k * 3 + 1) (.int .i64 l2)).set (k * 3 + 2) (.int .i64 u2) = (M.set k (x.1, ⟨l2, u2, n2⟩)).flatMap ntc
  | [], k, x, h => by simp at h
  | y :: M, 0, x, h => by
    obtain rfl : y = x := by simpa using h
    simp [List.flatMap_cons, ntc]
  | y :: M, k + 1, x, h => by
    have ih := rows_set l2 u2 n2 M k x (by simpa using h)
    have e1 : (k + 1) * 3 + 1 = (k * 3 + 1) + 1 + 1 + 1 := by omega
    have e2 : (k + 1) * 3 + 2 = (k * 3 + 2) + 1 + 1 + 1 := by omega
    rw [e1, e2, List.set_cons_succ, List.flatMap_cons, List.flatMap_cons, ← ih]
    rfl

set_option maxRecDepth 100000 in
set_option maxHeartbeats 8000000 in
theorem rfail_hit (base p : Nat) (fi mo re : Int) (M : List Nt) (v : Value) (g : ByteArray) (now cr : Int) (k : Nat) (x : Nt) (w : World) (h : RT w base p fi mo re M v) (hx : M[k]? = some x) (hg : x.1 = g) (hu : ∀ j y, j < k → M[j]? = some y → y.1 ≠ g) (hM : M.length ≤ 1000000) (ht : timeB now = true)
    (h0 : 1 ≤ fi) (h1 : fi ≤ mo) (h2 : mo ≤ 1099511627776) (hl0 : 1 ≤ x.2.l) (hl1 : x.2.l ≤ mo) (hu0 : 0 ≤ x.2.u) (hu1 : x.2.u ≤ 2199023255552) :
    Calls Try.prog 10 #[.pointer (some ⟨p, 0, none⟩), .string g, .int .i64 now] w fun e w' => e = .returned (.int .i64 (lenF fi mo re (some x.2) now)) ∧ RT w' base p fi mo re (M.set k (x.1, newF fi mo re cr (some x.2) now)) v ∧ Only (turnS p v) w w' := by
  have hn := of_decide_eq_true ht
  have HP := Lib.hid (place_hit base p fi mo re M v g k x w h hx hg hu hM)
  have Hh := Lib.hid h
  have HT := Lib.hid ht
  have hpb := h.hp
  have hnb := h.ne
  have hp := h.row.lt
  have hkl := lt_at hx
  have Hx := Lib.hid hx
  obtain ⟨a, kc, rfl, hc⟩ := h.rows
  obtain ⟨b, rfl, hb0, hb1, hc⟩ := hc (by omega)
  obtain ⟨d0, d1, d2⟩ := hc k x hx
  have c0 := h.row.cell 0
  have c1 := h.row.cell 1
  have c2 := h.row.cell 2
  have c3 := h.row.cell 3
  dsimp only [List.getElem?_cons_zero, List.getElem?_cons_succ] at c0 c1 c2 c3
  have f1 := h.own.frozenAt (k * 3 + 1)
  have f2 := h.own.frozenAt (k * 3 + 2)
  obtain ⟨s, l, u, nu⟩ := x
  dsimp only at d0 d1 d2 hg hl0 hl1 hu0 hu1
  subst hg
  obtain ⟨n, hn2⟩ : ∃ n, M.length = n := ⟨_, rfl⟩
  rw [hn2] at c0 hkl hM
  have Hn := Lib.hid hn2
  have w1 : IntKind.i64.wrap (2 * l) = 2 * l := wrap_in (by omega) (by omega)
  have w2 : IntKind.i64.wrap (now - u) = now - u := wrap_in (by omega) (by omega)
  have hbp : b ≠ p := fun e => hnb (by rw [e]; rfl)
  clear h hx hu ht hc hn2 hnb
  go_enter Try.func10, Try.ntmps10
  go_wp2_with (first
    | (go_at_call 25; (with_reducible refine (rtime_any now _).mono ?_); rw [HT.out]; rintro e w2 ⟨rfl, rfl⟩)
    | (go_at_call 28; (with_reducible refine HP.out.mono ?_); rintro e w1 ⟨rfl, rfl⟩))
  obtain ⟨X, hXe⟩ : ∃ X, X = w1.heap.size := ⟨_, rfl⟩
  obtain ⟨W, hW⟩ : ∃ W, W = w1.alloc (.cells #[.string s, .int .i64 l, .int .i64 u] 57) := ⟨_, rfl⟩
  have hB : Below w1.heap.size w1 W := by rw [hW]; exact (Below.refl _ _).alloc (Nat.le_refl _) _
  have HR := Lib.hid (Hh.out.below hB)
  have HO := Lib.hid (Only.of_below (S := turnS p (.slice (some ⟨b, 0, none⟩) n kc)) hB)
  have hbX : b ≠ X := by omega
  have hFW : RF W p b n kc k X fi mo re l u l := by
    obtain ⟨hc, hf⟩ := bcell hB
    have hz : W.heap.size = w1.heap.size + 1 := by rw [hW]; simp
    have hXb : Blk W X 57 [.string s, .int .i64 l, .int .i64 u] := by rw [hW, hXe]; exact Blk.new _ _ _
    exact ⟨by rw [hc _ _ hp]; exact c0, by rw [hc _ _ hp]; exact c1, by rw [hc _ _ hp]; exact c2, by rw [hc _ _ hp]; exact c3, by rw [hc _ _ hb1]; exact d1, by rw [hc _ _ hb1]; exact d2, hXb.cell 1, hXb.cell 2, by rw [hf _ _ hb1]; exact f1, by rw [hf _ _ hb1]; exact f2, by omega, by omega, by omega⟩
  rw [← hW, ← hXe]
  clear hW hXe hB Hh HP c0 c1 c2 c3 d0 d1 d2 f1 f2 hp hb1 hc
  have HF := Lib.hid (hFW)
  obtain ⟨c0, c1, c2, c3, d1, d2, x1, x2, f1, f2, hp, hb, hX⟩ := HF.out
  clear hFW
  have hLf : re ≤ now - u → lenF fi mo re (some ⟨l, u, nu⟩) now = fi := fun h => if_pos h
  have hLn : ¬ re ≤ now - u → lenF fi mo re (some ⟨l, u, nu⟩) now = min (2 * l) mo := fun h => if_neg h
  by_cases hm : mo < 2 * l
  · by_cases hre : re ≤ now - u
    · skip
      have hd := decide_eq_true hre
      have w3 : IntKind.i64.wrap (now + (fi)) = now + (fi) := wrap_in (by omega) (by omega)
      have hL : lenF fi mo re (some ⟨l, u, nu⟩) now = fi := hLf hre
      by_cases hmx : u < now + (fi)
      · skip
        have hN : newF fi mo re cr (some ⟨l, u, nu⟩) now = ⟨fi, now + (fi), nu⟩ := by
          show (⟨lenF fi mo re (some ⟨l, u, nu⟩) now, max u (now + lenF fi mo re (some ⟨l, u, nu⟩) now), nu⟩ : En) = _
          rw [hL, show max u (now + (fi)) = now + (fi) by omega]
        have HN := Lib.hid hN
        have HL := Lib.hid hL
        clear hN hL hLf hLn
        have hcH := held_cell
        refine region_rel (by kernel_rfl) (by kernel_rfl) ?_
        repeat
          ((with_reducible refine relStep (fun K hK => ?_))
           (have HK := Lib.hid hK)
           clear hK
           (first
             | (apply relInl
                · intro r n hf
                  have Hf := Lib.hid hf
                  clear hf
                  unfold relAt
                  go_simp
                  (first | (refine relUpon_val ?_ (Below.refl _ _); exact rfl) | exact rfl | (refine relUpon_enter ?_; fail))
                (simp only [Act.put, List.setIfInBounds_toArray, List.set_cons_zero, List.set_cons_succ])
                (with_reducible refine HK.out _ _ ?_)
                clear HK K)
             | (fail)))
        refine relNil ?_
        intro r4 n4 hx4
        clear hcH
        (try simp only [List.nil_append, List.cons_append, List.mem_cons, List.not_mem_nil, or_false, forall_eq_or_imp, forall_eq, false_implies, implies_true] at hx4)
        obtain ⟨w4, hb4⟩ := n4
        (try dsimp only)
        obtain ⟨hc4, hf4⟩ := bcell hb4
        have hz4 := hb4.size
        (try simp at hz4)
        have HR' := Lib.hid (HR.out.below hb4)
        have HO' := Lib.hid (HO.out.step (hb4.mono HO.out.size))
        have hF' := HF.out.below hb4
        clear HR HO HF c0 c1 c2 c3 d1 d2 x1 x2 f1 f2 hp hb hX hb4 hc4 hf4 hz4
        have HR := HR'
        have HO := HO'
        have HF := Lib.hid (hF')
        obtain ⟨c0, c1, c2, c3, d1, d2, x1, x2, f1, f2, hp, hb, hX⟩ := HF.out
        clear hF' HR' HO'
        go_wp2
        have hcH := held_cell
        refine region_rel (by kernel_rfl) (by kernel_rfl) ?_
        repeat
          ((with_reducible refine relStep (fun K hK => ?_))
           (have HK := Lib.hid hK)
           clear hK
           (first
             | (apply relInl
                · intro r n hf
                  have Hf := Lib.hid hf
                  clear hf
                  unfold relAt
                  go_simp
                  (first | (refine relUpon_val ?_ (Below.refl _ _); exact rfl) | exact rfl | (refine relUpon_enter ?_; fail))
                (simp only [Act.put, List.setIfInBounds_toArray, List.set_cons_zero, List.set_cons_succ])
                (with_reducible refine HK.out _ _ ?_)
                clear HK K)
             | (fail)))
        refine relNil ?_
        intro r5 n5 hx5
        clear hcH
        (try simp only [List.nil_append, List.cons_append, List.mem_cons, List.not_mem_nil, or_false, forall_eq_or_imp, forall_eq, false_implies, implies_true] at hx5)
        obtain ⟨w5, hb5⟩ := n5
        (try dsimp only)
        obtain ⟨hc5, hf5⟩ := bcell hb5
        have hz5 := hb5.size
        (try simp at hz5)
        have HR' := Lib.hid (HR.out.below hb5)
        have HO' := Lib.hid (HO.out.step (hb5.mono HO.out.size))
        have hF' := HF.out.below hb5
        clear HR HO HF c0 c1 c2 c3 d1 d2 x1 x2 f1 f2 hp hb hX hb5 hc5 hf5 hz5
        have HR := HR'
        have HO := HO'
        have HF := Lib.hid (hF')
        obtain ⟨c0, c1, c2, c3, d1, d2, x1, x2, f1, f2, hp, hb, hX⟩ := HF.out
        clear hF' HR' HO'
        go_wp2
        obtain ⟨V, hV⟩ : ∃ V, V = w5.setCell ⟨b, k * 3 + 1, none⟩ (.int .i64 (fi)) := ⟨_, rfl⟩
        have hFV : RF V p b n kc k X fi mo re l u (fi) := by rw [hV]; exact HF.out.set hbp hbX _
        have HOV := Lib.hid (show Only (turnS p (.slice (some ⟨b, 0, none⟩) n kc)) w1 V by rw [hV]; exact HO.out.setCell (.inl (by simp [turnS, Value.ownBlock])) _)
        have HRow := Lib.hid (show Blk V p 37 [.slice (some ⟨b, 0, none⟩) M.length kc, .int .i64 fi, .int .i64 mo, .int .i64 re] by rw [hV]; exact HR.out.row.other (by simpa using hbp.symm) _)
        have HOwn := Lib.hid (show V.ownsRow base 57 3 (.slice (some ⟨b, 0, none⟩) M.length kc) M.length ((M.flatMap ntc).set (k * 3 + 1) (.int .i64 (fi))) by rw [hV]; exact (HR.out.own.stored _ _).1)
        rw [← hV]
        clear hV HF HR HO c0 c1 c2 c3 d1 d2 x1 x2 f1 f2 hp hb hX
        have HF := Lib.hid (hFV)
        obtain ⟨c0, c1, c2, c3, d1, d2, x1, x2, f1, f2, hp, hb, hX⟩ := HF.out
        clear hFV
        have hcH := held_cell
        refine region_rel_tail 13 (by kernel_rfl) (by kernel_rfl) (by kernel_rfl) ?_
        dsimp only [List.take, List.drop]
        repeat
          ((with_reducible refine relStep (fun K hK => ?_))
           (have HK := Lib.hid hK)
           clear hK
           (apply relInl
            · intro r n hf
              have Hf := Lib.hid hf
              clear hf
              (first
                | (fail)
                | (unfold relAt
                   go_simp
                   (first | (refine relUpon_val ?_ (Below.refl _ _); exact rfl) | exact rfl | (refine relUpon_enter ?_; fail))))
            (simp only [Act.put, List.setIfInBounds_toArray, List.set_cons_zero, List.set_cons_succ])
            (with_reducible refine HK.out _ _ ?_)
            clear HK K))
        refine relNil ?_
        intro r6 n6 hx6
        clear hcH
        (try simp only [List.nil_append, List.cons_append, List.mem_cons, List.not_mem_nil, or_false, forall_eq_or_imp, forall_eq, false_implies, implies_true] at hx6)
        obtain ⟨w6, hb6⟩ := n6
        (try dsimp only)
        obtain ⟨hc6, hf6⟩ := bcell hb6
        have hz6 := hb6.size
        (try simp at hz6)
        have hF6 := HF.out.below hb6
        have HO6 := Lib.hid (HOV.out.step (hb6.mono HOV.out.size))
        have HRow6 := Lib.hid (HRow.out.below hb6)
        have HOwn6 := Lib.hid (own_kept HOwn.out hb6)
        clear HF HOV HRow HOwn c0 c1 c2 c3 d1 d2 x1 x2 f1 f2 hp hb hX hb6 hc6 hf6 hz6
        have HF := Lib.hid (hF6)
        obtain ⟨c0, c1, c2, c3, d1, d2, x1, x2, f1, f2, hp, hb, hX⟩ := HF.out
        clear hF6
        go_wp2
        go_ret
        have e9 := (HOwn6.out.stored (k * 3 + 2) (.int .i64 (now + (fi)))).1
        rw [rows_set (fi) (now + (fi)) nu M k _ Hx.out] at e9
        have hO9 := HO6.out.setCell (p := ⟨b, k * 3 + 2, none⟩) (.inl (by simp [turnS, Value.ownBlock])) (.int .i64 (now + (fi)))
        have h9 := HRow6.out.other (p := ⟨b, k * 3 + 2, none⟩) hbp.symm (.int .i64 (now + (fi)))
        rw [HL.out, HN.out]
        refine ⟨rfl, ⟨?_, ?_, (fun e => hbp (Option.some.inj e)), hpb⟩, ?_⟩
        · exact h9
        · rw [List.length_set]
          exact e9
        · exact hO9
      · skip
        have hN : newF fi mo re cr (some ⟨l, u, nu⟩) now = ⟨fi, u, nu⟩ := by
          show (⟨lenF fi mo re (some ⟨l, u, nu⟩) now, max u (now + lenF fi mo re (some ⟨l, u, nu⟩) now), nu⟩ : En) = _
          rw [hL, show max u (now + (fi)) = u by omega]
        have HN := Lib.hid hN
        have HL := Lib.hid hL
        clear hN hL hLf hLn
        have hcH := held_cell
        refine region_rel (by kernel_rfl) (by kernel_rfl) ?_
        repeat
          ((with_reducible refine relStep (fun K hK => ?_))
           (have HK := Lib.hid hK)
           clear hK
           (first
             | (apply relInl
                · intro r n hf
                  have Hf := Lib.hid hf
                  clear hf
                  unfold relAt
                  go_simp
                  (first | (refine relUpon_val ?_ (Below.refl _ _); exact rfl) | exact rfl | (refine relUpon_enter ?_; fail))
                (simp only [Act.put, List.setIfInBounds_toArray, List.set_cons_zero, List.set_cons_succ])
                (with_reducible refine HK.out _ _ ?_)
                clear HK K)
             | (fail)))
        refine relNil ?_
        intro r4 n4 hx4
        clear hcH
        (try simp only [List.nil_append, List.cons_append, List.mem_cons, List.not_mem_nil, or_false, forall_eq_or_imp, forall_eq, false_implies, implies_true] at hx4)
        obtain ⟨w4, hb4⟩ := n4
        (try dsimp only)
        obtain ⟨hc4, hf4⟩ := bcell hb4
        have hz4 := hb4.size
        (try simp at hz4)
        have HR' := Lib.hid (HR.out.below hb4)
        have HO' := Lib.hid (HO.out.step (hb4.mono HO.out.size))
        have hF' := HF.out.below hb4
        clear HR HO HF c0 c1 c2 c3 d1 d2 x1 x2 f1 f2 hp hb hX hb4 hc4 hf4 hz4
        have HR := HR'
        have HO := HO'
        have HF := Lib.hid (hF')
        obtain ⟨c0, c1, c2, c3, d1, d2, x1, x2, f1, f2, hp, hb, hX⟩ := HF.out
        clear hF' HR' HO'
        go_wp2
        have hcH := held_cell
        refine region_rel (by kernel_rfl) (by kernel_rfl) ?_
        repeat
          ((with_reducible refine relStep (fun K hK => ?_))
           (have HK := Lib.hid hK)
           clear hK
           (first
             | (apply relInl
                · intro r n hf
                  have Hf := Lib.hid hf
                  clear hf
                  unfold relAt
                  go_simp
                  (first | (refine relUpon_val ?_ (Below.refl _ _); exact rfl) | exact rfl | (refine relUpon_enter ?_; fail))
                (simp only [Act.put, List.setIfInBounds_toArray, List.set_cons_zero, List.set_cons_succ])
                (with_reducible refine HK.out _ _ ?_)
                clear HK K)
             | (fail)))
        refine relNil ?_
        intro r5 n5 hx5
        clear hcH
        (try simp only [List.nil_append, List.cons_append, List.mem_cons, List.not_mem_nil, or_false, forall_eq_or_imp, forall_eq, false_implies, implies_true] at hx5)
        obtain ⟨w5, hb5⟩ := n5
        (try dsimp only)
        obtain ⟨hc5, hf5⟩ := bcell hb5
        have hz5 := hb5.size
        (try simp at hz5)
        have HR' := Lib.hid (HR.out.below hb5)
        have HO' := Lib.hid (HO.out.step (hb5.mono HO.out.size))
        have hF' := HF.out.below hb5
        clear HR HO HF c0 c1 c2 c3 d1 d2 x1 x2 f1 f2 hp hb hX hb5 hc5 hf5 hz5
        have HR := HR'
        have HO := HO'
        have HF := Lib.hid (hF')
        obtain ⟨c0, c1, c2, c3, d1, d2, x1, x2, f1, f2, hp, hb, hX⟩ := HF.out
        clear hF' HR' HO'
        go_wp2
        obtain ⟨V, hV⟩ : ∃ V, V = w5.setCell ⟨b, k * 3 + 1, none⟩ (.int .i64 (fi)) := ⟨_, rfl⟩
        have hFV : RF V p b n kc k X fi mo re l u (fi) := by rw [hV]; exact HF.out.set hbp hbX _
        have HOV := Lib.hid (show Only (turnS p (.slice (some ⟨b, 0, none⟩) n kc)) w1 V by rw [hV]; exact HO.out.setCell (.inl (by simp [turnS, Value.ownBlock])) _)
        have HRow := Lib.hid (show Blk V p 37 [.slice (some ⟨b, 0, none⟩) M.length kc, .int .i64 fi, .int .i64 mo, .int .i64 re] by rw [hV]; exact HR.out.row.other (by simpa using hbp.symm) _)
        have HOwn := Lib.hid (show V.ownsRow base 57 3 (.slice (some ⟨b, 0, none⟩) M.length kc) M.length ((M.flatMap ntc).set (k * 3 + 1) (.int .i64 (fi))) by rw [hV]; exact (HR.out.own.stored _ _).1)
        rw [← hV]
        clear hV HF HR HO c0 c1 c2 c3 d1 d2 x1 x2 f1 f2 hp hb hX
        have HF := Lib.hid (hFV)
        obtain ⟨c0, c1, c2, c3, d1, d2, x1, x2, f1, f2, hp, hb, hX⟩ := HF.out
        clear hFV
        have hcH := held_cell
        refine region_rel_tail 13 (by kernel_rfl) (by kernel_rfl) (by kernel_rfl) ?_
        dsimp only [List.take, List.drop]
        repeat
          ((with_reducible refine relStep (fun K hK => ?_))
           (have HK := Lib.hid hK)
           clear hK
           (apply relInl
            · intro r n hf
              have Hf := Lib.hid hf
              clear hf
              (first
                | (fail)
                | (unfold relAt
                   go_simp
                   (first | (refine relUpon_val ?_ (Below.refl _ _); exact rfl) | exact rfl | (refine relUpon_enter ?_; fail))))
            (simp only [Act.put, List.setIfInBounds_toArray, List.set_cons_zero, List.set_cons_succ])
            (with_reducible refine HK.out _ _ ?_)
            clear HK K))
        refine relNil ?_
        intro r6 n6 hx6
        clear hcH
        (try simp only [List.nil_append, List.cons_append, List.mem_cons, List.not_mem_nil, or_false, forall_eq_or_imp, forall_eq, false_implies, implies_true] at hx6)
        obtain ⟨w6, hb6⟩ := n6
        (try dsimp only)
        obtain ⟨hc6, hf6⟩ := bcell hb6
        have hz6 := hb6.size
        (try simp at hz6)
        have hF6 := HF.out.below hb6
        have HO6 := Lib.hid (HOV.out.step (hb6.mono HOV.out.size))
        have HRow6 := Lib.hid (HRow.out.below hb6)
        have HOwn6 := Lib.hid (own_kept HOwn.out hb6)
        clear HF HOV HRow HOwn c0 c1 c2 c3 d1 d2 x1 x2 f1 f2 hp hb hX hb6 hc6 hf6 hz6
        have HF := Lib.hid (hF6)
        obtain ⟨c0, c1, c2, c3, d1, d2, x1, x2, f1, f2, hp, hb, hX⟩ := HF.out
        clear hF6
        go_wp2
        go_ret
        have e9 := (HOwn6.out.stored (k * 3 + 2) (.int .i64 (u))).1
        rw [rows_set (fi) (u) nu M k _ Hx.out] at e9
        have hO9 := HO6.out.setCell (p := ⟨b, k * 3 + 2, none⟩) (.inl (by simp [turnS, Value.ownBlock])) (.int .i64 (u))
        have h9 := HRow6.out.other (p := ⟨b, k * 3 + 2, none⟩) hbp.symm (.int .i64 (u))
        rw [HL.out, HN.out]
        refine ⟨rfl, ⟨?_, ?_, (fun e => hbp (Option.some.inj e)), hpb⟩, ?_⟩
        · exact h9
        · rw [List.length_set]
          exact e9
        · exact hO9
    · skip
      have hd := decide_eq_false hre
      have w3 : IntKind.i64.wrap (now + (mo)) = now + (mo) := wrap_in (by omega) (by omega)
      have hL : lenF fi mo re (some ⟨l, u, nu⟩) now = mo := (by rw [hLn hre]; omega)
      by_cases hmx : u < now + (mo)
      · skip
        have hN : newF fi mo re cr (some ⟨l, u, nu⟩) now = ⟨mo, now + (mo), nu⟩ := by
          show (⟨lenF fi mo re (some ⟨l, u, nu⟩) now, max u (now + lenF fi mo re (some ⟨l, u, nu⟩) now), nu⟩ : En) = _
          rw [hL, show max u (now + (mo)) = now + (mo) by omega]
        have HN := Lib.hid hN
        have HL := Lib.hid hL
        clear hN hL hLf hLn
        have hcH := held_cell
        refine region_rel (by kernel_rfl) (by kernel_rfl) ?_
        repeat
          ((with_reducible refine relStep (fun K hK => ?_))
           (have HK := Lib.hid hK)
           clear hK
           (first
             | (apply relInl
                · intro r n hf
                  have Hf := Lib.hid hf
                  clear hf
                  unfold relAt
                  go_simp
                  (first | (refine relUpon_val ?_ (Below.refl _ _); exact rfl) | exact rfl | (refine relUpon_enter ?_; fail))
                (simp only [Act.put, List.setIfInBounds_toArray, List.set_cons_zero, List.set_cons_succ])
                (with_reducible refine HK.out _ _ ?_)
                clear HK K)
             | (fail)))
        refine relNil ?_
        intro r4 n4 hx4
        clear hcH
        (try simp only [List.nil_append, List.cons_append, List.mem_cons, List.not_mem_nil, or_false, forall_eq_or_imp, forall_eq, false_implies, implies_true] at hx4)
        obtain ⟨w4, hb4⟩ := n4
        (try dsimp only)
        obtain ⟨hc4, hf4⟩ := bcell hb4
        have hz4 := hb4.size
        (try simp at hz4)
        have HR' := Lib.hid (HR.out.below hb4)
        have HO' := Lib.hid (HO.out.step (hb4.mono HO.out.size))
        have hF' := HF.out.below hb4
        clear HR HO HF c0 c1 c2 c3 d1 d2 x1 x2 f1 f2 hp hb hX hb4 hc4 hf4 hz4
        have HR := HR'
        have HO := HO'
        have HF := Lib.hid (hF')
        obtain ⟨c0, c1, c2, c3, d1, d2, x1, x2, f1, f2, hp, hb, hX⟩ := HF.out
        clear hF' HR' HO'
        go_wp2
        have hcH := held_cell
        refine region_rel (by kernel_rfl) (by kernel_rfl) ?_
        repeat
          ((with_reducible refine relStep (fun K hK => ?_))
           (have HK := Lib.hid hK)
           clear hK
           (first
             | (apply relInl
                · intro r n hf
                  have Hf := Lib.hid hf
                  clear hf
                  unfold relAt
                  go_simp
                  (first | (refine relUpon_val ?_ (Below.refl _ _); exact rfl) | exact rfl | (refine relUpon_enter ?_; fail))
                (simp only [Act.put, List.setIfInBounds_toArray, List.set_cons_zero, List.set_cons_succ])
                (with_reducible refine HK.out _ _ ?_)
                clear HK K)
             | (fail)))
        refine relNil ?_
        intro r5 n5 hx5
        clear hcH
        (try simp only [List.nil_append, List.cons_append, List.mem_cons, List.not_mem_nil, or_false, forall_eq_or_imp, forall_eq, false_implies, implies_true] at hx5)
        obtain ⟨w5, hb5⟩ := n5
        (try dsimp only)
        obtain ⟨hc5, hf5⟩ := bcell hb5
        have hz5 := hb5.size
        (try simp at hz5)
        have HR' := Lib.hid (HR.out.below hb5)
        have HO' := Lib.hid (HO.out.step (hb5.mono HO.out.size))
        have hF' := HF.out.below hb5
        clear HR HO HF c0 c1 c2 c3 d1 d2 x1 x2 f1 f2 hp hb hX hb5 hc5 hf5 hz5
        have HR := HR'
        have HO := HO'
        have HF := Lib.hid (hF')
        obtain ⟨c0, c1, c2, c3, d1, d2, x1, x2, f1, f2, hp, hb, hX⟩ := HF.out
        clear hF' HR' HO'
        go_wp2
        obtain ⟨V, hV⟩ : ∃ V, V = w5.setCell ⟨b, k * 3 + 1, none⟩ (.int .i64 (mo)) := ⟨_, rfl⟩
        have hFV : RF V p b n kc k X fi mo re l u (mo) := by rw [hV]; exact HF.out.set hbp hbX _
        have HOV := Lib.hid (show Only (turnS p (.slice (some ⟨b, 0, none⟩) n kc)) w1 V by rw [hV]; exact HO.out.setCell (.inl (by simp [turnS, Value.ownBlock])) _)
        have HRow := Lib.hid (show Blk V p 37 [.slice (some ⟨b, 0, none⟩) M.length kc, .int .i64 fi, .int .i64 mo, .int .i64 re] by rw [hV]; exact HR.out.row.other (by simpa using hbp.symm) _)
        have HOwn := Lib.hid (show V.ownsRow base 57 3 (.slice (some ⟨b, 0, none⟩) M.length kc) M.length ((M.flatMap ntc).set (k * 3 + 1) (.int .i64 (mo))) by rw [hV]; exact (HR.out.own.stored _ _).1)
        rw [← hV]
        clear hV HF HR HO c0 c1 c2 c3 d1 d2 x1 x2 f1 f2 hp hb hX
        have HF := Lib.hid (hFV)
        obtain ⟨c0, c1, c2, c3, d1, d2, x1, x2, f1, f2, hp, hb, hX⟩ := HF.out
        clear hFV
        have hcH := held_cell
        refine region_rel_tail 13 (by kernel_rfl) (by kernel_rfl) (by kernel_rfl) ?_
        dsimp only [List.take, List.drop]
        repeat
          ((with_reducible refine relStep (fun K hK => ?_))
           (have HK := Lib.hid hK)
           clear hK
           (apply relInl
            · intro r n hf
              have Hf := Lib.hid hf
              clear hf
              (first
                | (fail)
                | (unfold relAt
                   go_simp
                   (first | (refine relUpon_val ?_ (Below.refl _ _); exact rfl) | exact rfl | (refine relUpon_enter ?_; fail))))
            (simp only [Act.put, List.setIfInBounds_toArray, List.set_cons_zero, List.set_cons_succ])
            (with_reducible refine HK.out _ _ ?_)
            clear HK K))
        refine relNil ?_
        intro r6 n6 hx6
        clear hcH
        (try simp only [List.nil_append, List.cons_append, List.mem_cons, List.not_mem_nil, or_false, forall_eq_or_imp, forall_eq, false_implies, implies_true] at hx6)
        obtain ⟨w6, hb6⟩ := n6
        (try dsimp only)
        obtain ⟨hc6, hf6⟩ := bcell hb6
        have hz6 := hb6.size
        (try simp at hz6)
        have hF6 := HF.out.below hb6
        have HO6 := Lib.hid (HOV.out.step (hb6.mono HOV.out.size))
        have HRow6 := Lib.hid (HRow.out.below hb6)
        have HOwn6 := Lib.hid (own_kept HOwn.out hb6)
        clear HF HOV HRow HOwn c0 c1 c2 c3 d1 d2 x1 x2 f1 f2 hp hb hX hb6 hc6 hf6 hz6
        have HF := Lib.hid (hF6)
        obtain ⟨c0, c1, c2, c3, d1, d2, x1, x2, f1, f2, hp, hb, hX⟩ := HF.out
        clear hF6
        go_wp2
        go_ret
        have e9 := (HOwn6.out.stored (k * 3 + 2) (.int .i64 (now + (mo)))).1
        rw [rows_set (mo) (now + (mo)) nu M k _ Hx.out] at e9
        have hO9 := HO6.out.setCell (p := ⟨b, k * 3 + 2, none⟩) (.inl (by simp [turnS, Value.ownBlock])) (.int .i64 (now + (mo)))
        have h9 := HRow6.out.other (p := ⟨b, k * 3 + 2, none⟩) hbp.symm (.int .i64 (now + (mo)))
        rw [HL.out, HN.out]
        refine ⟨rfl, ⟨?_, ?_, (fun e => hbp (Option.some.inj e)), hpb⟩, ?_⟩
        · exact h9
        · rw [List.length_set]
          exact e9
        · exact hO9
      · skip
        have hN : newF fi mo re cr (some ⟨l, u, nu⟩) now = ⟨mo, u, nu⟩ := by
          show (⟨lenF fi mo re (some ⟨l, u, nu⟩) now, max u (now + lenF fi mo re (some ⟨l, u, nu⟩) now), nu⟩ : En) = _
          rw [hL, show max u (now + (mo)) = u by omega]
        have HN := Lib.hid hN
        have HL := Lib.hid hL
        clear hN hL hLf hLn
        have hcH := held_cell
        refine region_rel (by kernel_rfl) (by kernel_rfl) ?_
        repeat
          ((with_reducible refine relStep (fun K hK => ?_))
           (have HK := Lib.hid hK)
           clear hK
           (first
             | (apply relInl
                · intro r n hf
                  have Hf := Lib.hid hf
                  clear hf
                  unfold relAt
                  go_simp
                  (first | (refine relUpon_val ?_ (Below.refl _ _); exact rfl) | exact rfl | (refine relUpon_enter ?_; fail))
                (simp only [Act.put, List.setIfInBounds_toArray, List.set_cons_zero, List.set_cons_succ])
                (with_reducible refine HK.out _ _ ?_)
                clear HK K)
             | (fail)))
        refine relNil ?_
        intro r4 n4 hx4
        clear hcH
        (try simp only [List.nil_append, List.cons_append, List.mem_cons, List.not_mem_nil, or_false, forall_eq_or_imp, forall_eq, false_implies, implies_true] at hx4)
        obtain ⟨w4, hb4⟩ := n4
        (try dsimp only)
        obtain ⟨hc4, hf4⟩ := bcell hb4
        have hz4 := hb4.size
        (try simp at hz4)
        have HR' := Lib.hid (HR.out.below hb4)
        have HO' := Lib.hid (HO.out.step (hb4.mono HO.out.size))
        have hF' := HF.out.below hb4
        clear HR HO HF c0 c1 c2 c3 d1 d2 x1 x2 f1 f2 hp hb hX hb4 hc4 hf4 hz4
        have HR := HR'
        have HO := HO'
        have HF := Lib.hid (hF')
        obtain ⟨c0, c1, c2, c3, d1, d2, x1, x2, f1, f2, hp, hb, hX⟩ := HF.out
        clear hF' HR' HO'
        go_wp2
        have hcH := held_cell
        refine region_rel (by kernel_rfl) (by kernel_rfl) ?_
        repeat
          ((with_reducible refine relStep (fun K hK => ?_))
           (have HK := Lib.hid hK)
           clear hK
           (first
             | (apply relInl
                · intro r n hf
                  have Hf := Lib.hid hf
                  clear hf
                  unfold relAt
                  go_simp
                  (first | (refine relUpon_val ?_ (Below.refl _ _); exact rfl) | exact rfl | (refine relUpon_enter ?_; fail))
                (simp only [Act.put, List.setIfInBounds_toArray, List.set_cons_zero, List.set_cons_succ])
                (with_reducible refine HK.out _ _ ?_)
                clear HK K)
             | (fail)))
        refine relNil ?_
        intro r5 n5 hx5
        clear hcH
        (try simp only [List.nil_append, List.cons_append, List.mem_cons, List.not_mem_nil, or_false, forall_eq_or_imp, forall_eq, false_implies, implies_true] at hx5)
        obtain ⟨w5, hb5⟩ := n5
        (try dsimp only)
        obtain ⟨hc5, hf5⟩ := bcell hb5
        have hz5 := hb5.size
        (try simp at hz5)
        have HR' := Lib.hid (HR.out.below hb5)
        have HO' := Lib.hid (HO.out.step (hb5.mono HO.out.size))
        have hF' := HF.out.below hb5
        clear HR HO HF c0 c1 c2 c3 d1 d2 x1 x2 f1 f2 hp hb hX hb5 hc5 hf5 hz5
        have HR := HR'
        have HO := HO'
        have HF := Lib.hid (hF')
        obtain ⟨c0, c1, c2, c3, d1, d2, x1, x2, f1, f2, hp, hb, hX⟩ := HF.out
        clear hF' HR' HO'
        go_wp2
        obtain ⟨V, hV⟩ : ∃ V, V = w5.setCell ⟨b, k * 3 + 1, none⟩ (.int .i64 (mo)) := ⟨_, rfl⟩
        have hFV : RF V p b n kc k X fi mo re l u (mo) := by rw [hV]; exact HF.out.set hbp hbX _
        have HOV := Lib.hid (show Only (turnS p (.slice (some ⟨b, 0, none⟩) n kc)) w1 V by rw [hV]; exact HO.out.setCell (.inl (by simp [turnS, Value.ownBlock])) _)
        have HRow := Lib.hid (show Blk V p 37 [.slice (some ⟨b, 0, none⟩) M.length kc, .int .i64 fi, .int .i64 mo, .int .i64 re] by rw [hV]; exact HR.out.row.other (by simpa using hbp.symm) _)
        have HOwn := Lib.hid (show V.ownsRow base 57 3 (.slice (some ⟨b, 0, none⟩) M.length kc) M.length ((M.flatMap ntc).set (k * 3 + 1) (.int .i64 (mo))) by rw [hV]; exact (HR.out.own.stored _ _).1)
        rw [← hV]
        clear hV HF HR HO c0 c1 c2 c3 d1 d2 x1 x2 f1 f2 hp hb hX
        have HF := Lib.hid (hFV)
        obtain ⟨c0, c1, c2, c3, d1, d2, x1, x2, f1, f2, hp, hb, hX⟩ := HF.out
        clear hFV
        have hcH := held_cell
        refine region_rel_tail 13 (by kernel_rfl) (by kernel_rfl) (by kernel_rfl) ?_
        dsimp only [List.take, List.drop]
        repeat
          ((with_reducible refine relStep (fun K hK => ?_))
           (have HK := Lib.hid hK)
           clear hK
           (apply relInl
            · intro r n hf
              have Hf := Lib.hid hf
              clear hf
              (first
                | (fail)
                | (unfold relAt
                   go_simp
                   (first | (refine relUpon_val ?_ (Below.refl _ _); exact rfl) | exact rfl | (refine relUpon_enter ?_; fail))))
            (simp only [Act.put, List.setIfInBounds_toArray, List.set_cons_zero, List.set_cons_succ])
            (with_reducible refine HK.out _ _ ?_)
            clear HK K))
        refine relNil ?_
        intro r6 n6 hx6
        clear hcH
        (try simp only [List.nil_append, List.cons_append, List.mem_cons, List.not_mem_nil, or_false, forall_eq_or_imp, forall_eq, false_implies, implies_true] at hx6)
        obtain ⟨w6, hb6⟩ := n6
        (try dsimp only)
        obtain ⟨hc6, hf6⟩ := bcell hb6
        have hz6 := hb6.size
        (try simp at hz6)
        have hF6 := HF.out.below hb6
        have HO6 := Lib.hid (HOV.out.step (hb6.mono HOV.out.size))
        have HRow6 := Lib.hid (HRow.out.below hb6)
        have HOwn6 := Lib.hid (own_kept HOwn.out hb6)
        clear HF HOV HRow HOwn c0 c1 c2 c3 d1 d2 x1 x2 f1 f2 hp hb hX hb6 hc6 hf6 hz6
        have HF := Lib.hid (hF6)
        obtain ⟨c0, c1, c2, c3, d1, d2, x1, x2, f1, f2, hp, hb, hX⟩ := HF.out
        clear hF6
        go_wp2
        go_ret
        have e9 := (HOwn6.out.stored (k * 3 + 2) (.int .i64 (u))).1
        rw [rows_set (mo) (u) nu M k _ Hx.out] at e9
        have hO9 := HO6.out.setCell (p := ⟨b, k * 3 + 2, none⟩) (.inl (by simp [turnS, Value.ownBlock])) (.int .i64 (u))
        have h9 := HRow6.out.other (p := ⟨b, k * 3 + 2, none⟩) hbp.symm (.int .i64 (u))
        rw [HL.out, HN.out]
        refine ⟨rfl, ⟨?_, ?_, (fun e => hbp (Option.some.inj e)), hpb⟩, ?_⟩
        · exact h9
        · rw [List.length_set]
          exact e9
        · exact hO9
  · by_cases hre : re ≤ now - u
    · skip
      have hd := decide_eq_true hre
      have w3 : IntKind.i64.wrap (now + (fi)) = now + (fi) := wrap_in (by omega) (by omega)
      have hL : lenF fi mo re (some ⟨l, u, nu⟩) now = fi := hLf hre
      by_cases hmx : u < now + (fi)
      · skip
        have hN : newF fi mo re cr (some ⟨l, u, nu⟩) now = ⟨fi, now + (fi), nu⟩ := by
          show (⟨lenF fi mo re (some ⟨l, u, nu⟩) now, max u (now + lenF fi mo re (some ⟨l, u, nu⟩) now), nu⟩ : En) = _
          rw [hL, show max u (now + (fi)) = now + (fi) by omega]
        have HN := Lib.hid hN
        have HL := Lib.hid hL
        clear hN hL hLf hLn
        have hcH := held_cell
        refine region_rel (by kernel_rfl) (by kernel_rfl) ?_
        repeat
          ((with_reducible refine relStep (fun K hK => ?_))
           (have HK := Lib.hid hK)
           clear hK
           (first
             | (apply relInl
                · intro r n hf
                  have Hf := Lib.hid hf
                  clear hf
                  unfold relAt
                  go_simp
                  (first | (refine relUpon_val ?_ (Below.refl _ _); exact rfl) | exact rfl | (refine relUpon_enter ?_; fail))
                (simp only [Act.put, List.setIfInBounds_toArray, List.set_cons_zero, List.set_cons_succ])
                (with_reducible refine HK.out _ _ ?_)
                clear HK K)
             | (fail)))
        refine relNil ?_
        intro r4 n4 hx4
        clear hcH
        (try simp only [List.nil_append, List.cons_append, List.mem_cons, List.not_mem_nil, or_false, forall_eq_or_imp, forall_eq, false_implies, implies_true] at hx4)
        obtain ⟨w4, hb4⟩ := n4
        (try dsimp only)
        obtain ⟨hc4, hf4⟩ := bcell hb4
        have hz4 := hb4.size
        (try simp at hz4)
        have HR' := Lib.hid (HR.out.below hb4)
        have HO' := Lib.hid (HO.out.step (hb4.mono HO.out.size))
        have hF' := HF.out.below hb4
        clear HR HO HF c0 c1 c2 c3 d1 d2 x1 x2 f1 f2 hp hb hX hb4 hc4 hf4 hz4
        have HR := HR'
        have HO := HO'
        have HF := Lib.hid (hF')
        obtain ⟨c0, c1, c2, c3, d1, d2, x1, x2, f1, f2, hp, hb, hX⟩ := HF.out
        clear hF' HR' HO'
        go_wp2
        have hcH := held_cell
        refine region_rel (by kernel_rfl) (by kernel_rfl) ?_
        repeat
          ((with_reducible refine relStep (fun K hK => ?_))
           (have HK := Lib.hid hK)
           clear hK
           (first
             | (apply relInl
                · intro r n hf
                  have Hf := Lib.hid hf
                  clear hf
                  unfold relAt
                  go_simp
                  (first | (refine relUpon_val ?_ (Below.refl _ _); exact rfl) | exact rfl | (refine relUpon_enter ?_; fail))
                (simp only [Act.put, List.setIfInBounds_toArray, List.set_cons_zero, List.set_cons_succ])
                (with_reducible refine HK.out _ _ ?_)
                clear HK K)
             | (fail)))
        refine relNil ?_
        intro r5 n5 hx5
        clear hcH
        (try simp only [List.nil_append, List.cons_append, List.mem_cons, List.not_mem_nil, or_false, forall_eq_or_imp, forall_eq, false_implies, implies_true] at hx5)
        obtain ⟨w5, hb5⟩ := n5
        (try dsimp only)
        obtain ⟨hc5, hf5⟩ := bcell hb5
        have hz5 := hb5.size
        (try simp at hz5)
        have HR' := Lib.hid (HR.out.below hb5)
        have HO' := Lib.hid (HO.out.step (hb5.mono HO.out.size))
        have hF' := HF.out.below hb5
        clear HR HO HF c0 c1 c2 c3 d1 d2 x1 x2 f1 f2 hp hb hX hb5 hc5 hf5 hz5
        have HR := HR'
        have HO := HO'
        have HF := Lib.hid (hF')
        obtain ⟨c0, c1, c2, c3, d1, d2, x1, x2, f1, f2, hp, hb, hX⟩ := HF.out
        clear hF' HR' HO'
        go_wp2
        obtain ⟨V, hV⟩ : ∃ V, V = w5.setCell ⟨b, k * 3 + 1, none⟩ (.int .i64 (fi)) := ⟨_, rfl⟩
        have hFV : RF V p b n kc k X fi mo re l u (fi) := by rw [hV]; exact HF.out.set hbp hbX _
        have HOV := Lib.hid (show Only (turnS p (.slice (some ⟨b, 0, none⟩) n kc)) w1 V by rw [hV]; exact HO.out.setCell (.inl (by simp [turnS, Value.ownBlock])) _)
        have HRow := Lib.hid (show Blk V p 37 [.slice (some ⟨b, 0, none⟩) M.length kc, .int .i64 fi, .int .i64 mo, .int .i64 re] by rw [hV]; exact HR.out.row.other (by simpa using hbp.symm) _)
        have HOwn := Lib.hid (show V.ownsRow base 57 3 (.slice (some ⟨b, 0, none⟩) M.length kc) M.length ((M.flatMap ntc).set (k * 3 + 1) (.int .i64 (fi))) by rw [hV]; exact (HR.out.own.stored _ _).1)
        rw [← hV]
        clear hV HF HR HO c0 c1 c2 c3 d1 d2 x1 x2 f1 f2 hp hb hX
        have HF := Lib.hid (hFV)
        obtain ⟨c0, c1, c2, c3, d1, d2, x1, x2, f1, f2, hp, hb, hX⟩ := HF.out
        clear hFV
        have hcH := held_cell
        refine region_rel_tail 13 (by kernel_rfl) (by kernel_rfl) (by kernel_rfl) ?_
        dsimp only [List.take, List.drop]
        repeat
          ((with_reducible refine relStep (fun K hK => ?_))
           (have HK := Lib.hid hK)
           clear hK
           (apply relInl
            · intro r n hf
              have Hf := Lib.hid hf
              clear hf
              (first
                | (fail)
                | (unfold relAt
                   go_simp
                   (first | (refine relUpon_val ?_ (Below.refl _ _); exact rfl) | exact rfl | (refine relUpon_enter ?_; fail))))
            (simp only [Act.put, List.setIfInBounds_toArray, List.set_cons_zero, List.set_cons_succ])
            (with_reducible refine HK.out _ _ ?_)
            clear HK K))
        refine relNil ?_
        intro r6 n6 hx6
        clear hcH
        (try simp only [List.nil_append, List.cons_append, List.mem_cons, List.not_mem_nil, or_false, forall_eq_or_imp, forall_eq, false_implies, implies_true] at hx6)
        obtain ⟨w6, hb6⟩ := n6
        (try dsimp only)
        obtain ⟨hc6, hf6⟩ := bcell hb6
        have hz6 := hb6.size
        (try simp at hz6)
        have hF6 := HF.out.below hb6
        have HO6 := Lib.hid (HOV.out.step (hb6.mono HOV.out.size))
        have HRow6 := Lib.hid (HRow.out.below hb6)
        have HOwn6 := Lib.hid (own_kept HOwn.out hb6)
        clear HF HOV HRow HOwn c0 c1 c2 c3 d1 d2 x1 x2 f1 f2 hp hb hX hb6 hc6 hf6 hz6
        have HF := Lib.hid (hF6)
        obtain ⟨c0, c1, c2, c3, d1, d2, x1, x2, f1, f2, hp, hb, hX⟩ := HF.out
        clear hF6
        go_wp2
        go_ret
        have e9 := (HOwn6.out.stored (k * 3 + 2) (.int .i64 (now + (fi)))).1
        rw [rows_set (fi) (now + (fi)) nu M k _ Hx.out] at e9
        have hO9 := HO6.out.setCell (p := ⟨b, k * 3 + 2, none⟩) (.inl (by simp [turnS, Value.ownBlock])) (.int .i64 (now + (fi)))
        have h9 := HRow6.out.other (p := ⟨b, k * 3 + 2, none⟩) hbp.symm (.int .i64 (now + (fi)))
        rw [HL.out, HN.out]
        refine ⟨rfl, ⟨?_, ?_, (fun e => hbp (Option.some.inj e)), hpb⟩, ?_⟩
        · exact h9
        · rw [List.length_set]
          exact e9
        · exact hO9
      · skip
        have hN : newF fi mo re cr (some ⟨l, u, nu⟩) now = ⟨fi, u, nu⟩ := by
          show (⟨lenF fi mo re (some ⟨l, u, nu⟩) now, max u (now + lenF fi mo re (some ⟨l, u, nu⟩) now), nu⟩ : En) = _
          rw [hL, show max u (now + (fi)) = u by omega]
        have HN := Lib.hid hN
        have HL := Lib.hid hL
        clear hN hL hLf hLn
        have hcH := held_cell
        refine region_rel (by kernel_rfl) (by kernel_rfl) ?_
        repeat
          ((with_reducible refine relStep (fun K hK => ?_))
           (have HK := Lib.hid hK)
           clear hK
           (first
             | (apply relInl
                · intro r n hf
                  have Hf := Lib.hid hf
                  clear hf
                  unfold relAt
                  go_simp
                  (first | (refine relUpon_val ?_ (Below.refl _ _); exact rfl) | exact rfl | (refine relUpon_enter ?_; fail))
                (simp only [Act.put, List.setIfInBounds_toArray, List.set_cons_zero, List.set_cons_succ])
                (with_reducible refine HK.out _ _ ?_)
                clear HK K)
             | (fail)))
        refine relNil ?_
        intro r4 n4 hx4
        clear hcH
        (try simp only [List.nil_append, List.cons_append, List.mem_cons, List.not_mem_nil, or_false, forall_eq_or_imp, forall_eq, false_implies, implies_true] at hx4)
        obtain ⟨w4, hb4⟩ := n4
        (try dsimp only)
        obtain ⟨hc4, hf4⟩ := bcell hb4
        have hz4 := hb4.size
        (try simp at hz4)
        have HR' := Lib.hid (HR.out.below hb4)
        have HO' := Lib.hid (HO.out.step (hb4.mono HO.out.size))
        have hF' := HF.out.below hb4
        clear HR HO HF c0 c1 c2 c3 d1 d2 x1 x2 f1 f2 hp hb hX hb4 hc4 hf4 hz4
        have HR := HR'
        have HO := HO'
        have HF := Lib.hid (hF')
        obtain ⟨c0, c1, c2, c3, d1, d2, x1, x2, f1, f2, hp, hb, hX⟩ := HF.out
        clear hF' HR' HO'
        go_wp2
        have hcH := held_cell
        refine region_rel (by kernel_rfl) (by kernel_rfl) ?_
        repeat
          ((with_reducible refine relStep (fun K hK => ?_))
           (have HK := Lib.hid hK)
           clear hK
           (first
             | (apply relInl
                · intro r n hf
                  have Hf := Lib.hid hf
                  clear hf
                  unfold relAt
                  go_simp
                  (first | (refine relUpon_val ?_ (Below.refl _ _); exact rfl) | exact rfl | (refine relUpon_enter ?_; fail))
                (simp only [Act.put, List.setIfInBounds_toArray, List.set_cons_zero, List.set_cons_succ])
                (with_reducible refine HK.out _ _ ?_)
                clear HK K)
             | (fail)))
        refine relNil ?_
        intro r5 n5 hx5
        clear hcH
        (try simp only [List.nil_append, List.cons_append, List.mem_cons, List.not_mem_nil, or_false, forall_eq_or_imp, forall_eq, false_implies, implies_true] at hx5)
        obtain ⟨w5, hb5⟩ := n5
        (try dsimp only)
        obtain ⟨hc5, hf5⟩ := bcell hb5
        have hz5 := hb5.size
        (try simp at hz5)
        have HR' := Lib.hid (HR.out.below hb5)
        have HO' := Lib.hid (HO.out.step (hb5.mono HO.out.size))
        have hF' := HF.out.below hb5
        clear HR HO HF c0 c1 c2 c3 d1 d2 x1 x2 f1 f2 hp hb hX hb5 hc5 hf5 hz5
        have HR := HR'
        have HO := HO'
        have HF := Lib.hid (hF')
        obtain ⟨c0, c1, c2, c3, d1, d2, x1, x2, f1, f2, hp, hb, hX⟩ := HF.out
        clear hF' HR' HO'
        go_wp2
        obtain ⟨V, hV⟩ : ∃ V, V = w5.setCell ⟨b, k * 3 + 1, none⟩ (.int .i64 (fi)) := ⟨_, rfl⟩
        have hFV : RF V p b n kc k X fi mo re l u (fi) := by rw [hV]; exact HF.out.set hbp hbX _
        have HOV := Lib.hid (show Only (turnS p (.slice (some ⟨b, 0, none⟩) n kc)) w1 V by rw [hV]; exact HO.out.setCell (.inl (by simp [turnS, Value.ownBlock])) _)
        have HRow := Lib.hid (show Blk V p 37 [.slice (some ⟨b, 0, none⟩) M.length kc, .int .i64 fi, .int .i64 mo, .int .i64 re] by rw [hV]; exact HR.out.row.other (by simpa using hbp.symm) _)
        have HOwn := Lib.hid (show V.ownsRow base 57 3 (.slice (some ⟨b, 0, none⟩) M.length kc) M.length ((M.flatMap ntc).set (k * 3 + 1) (.int .i64 (fi))) by rw [hV]; exact (HR.out.own.stored _ _).1)
        rw [← hV]
        clear hV HF HR HO c0 c1 c2 c3 d1 d2 x1 x2 f1 f2 hp hb hX
        have HF := Lib.hid (hFV)
        obtain ⟨c0, c1, c2, c3, d1, d2, x1, x2, f1, f2, hp, hb, hX⟩ := HF.out
        clear hFV
        have hcH := held_cell
        refine region_rel_tail 13 (by kernel_rfl) (by kernel_rfl) (by kernel_rfl) ?_
        dsimp only [List.take, List.drop]
        repeat
          ((with_reducible refine relStep (fun K hK => ?_))
           (have HK := Lib.hid hK)
           clear hK
           (apply relInl
            · intro r n hf
              have Hf := Lib.hid hf
              clear hf
              (first
                | (fail)
                | (unfold relAt
                   go_simp
                   (first | (refine relUpon_val ?_ (Below.refl _ _); exact rfl) | exact rfl | (refine relUpon_enter ?_; fail))))
            (simp only [Act.put, List.setIfInBounds_toArray, List.set_cons_zero, List.set_cons_succ])
            (with_reducible refine HK.out _ _ ?_)
            clear HK K))
        refine relNil ?_
        intro r6 n6 hx6
        clear hcH
        (try simp only [List.nil_append, List.cons_append, List.mem_cons, List.not_mem_nil, or_false, forall_eq_or_imp, forall_eq, false_implies, implies_true] at hx6)
        obtain ⟨w6, hb6⟩ := n6
        (try dsimp only)
        obtain ⟨hc6, hf6⟩ := bcell hb6
        have hz6 := hb6.size
        (try simp at hz6)
        have hF6 := HF.out.below hb6
        have HO6 := Lib.hid (HOV.out.step (hb6.mono HOV.out.size))
        have HRow6 := Lib.hid (HRow.out.below hb6)
        have HOwn6 := Lib.hid (own_kept HOwn.out hb6)
        clear HF HOV HRow HOwn c0 c1 c2 c3 d1 d2 x1 x2 f1 f2 hp hb hX hb6 hc6 hf6 hz6
        have HF := Lib.hid (hF6)
        obtain ⟨c0, c1, c2, c3, d1, d2, x1, x2, f1, f2, hp, hb, hX⟩ := HF.out
        clear hF6
        go_wp2
        go_ret
        have e9 := (HOwn6.out.stored (k * 3 + 2) (.int .i64 (u))).1
        rw [rows_set (fi) (u) nu M k _ Hx.out] at e9
        have hO9 := HO6.out.setCell (p := ⟨b, k * 3 + 2, none⟩) (.inl (by simp [turnS, Value.ownBlock])) (.int .i64 (u))
        have h9 := HRow6.out.other (p := ⟨b, k * 3 + 2, none⟩) hbp.symm (.int .i64 (u))
        rw [HL.out, HN.out]
        refine ⟨rfl, ⟨?_, ?_, (fun e => hbp (Option.some.inj e)), hpb⟩, ?_⟩
        · exact h9
        · rw [List.length_set]
          exact e9
        · exact hO9
    · skip
      have hd := decide_eq_false hre
      have w3 : IntKind.i64.wrap (now + (2 * l)) = now + (2 * l) := wrap_in (by omega) (by omega)
      have hL : lenF fi mo re (some ⟨l, u, nu⟩) now = 2 * l := (by rw [hLn hre]; omega)
      by_cases hmx : u < now + (2 * l)
      · skip
        have hN : newF fi mo re cr (some ⟨l, u, nu⟩) now = ⟨2 * l, now + (2 * l), nu⟩ := by
          show (⟨lenF fi mo re (some ⟨l, u, nu⟩) now, max u (now + lenF fi mo re (some ⟨l, u, nu⟩) now), nu⟩ : En) = _
          rw [hL, show max u (now + (2 * l)) = now + (2 * l) by omega]
        have HN := Lib.hid hN
        have HL := Lib.hid hL
        clear hN hL hLf hLn
        have hcH := held_cell
        refine region_rel (by kernel_rfl) (by kernel_rfl) ?_
        repeat
          ((with_reducible refine relStep (fun K hK => ?_))
           (have HK := Lib.hid hK)
           clear hK
           (first
             | (apply relInl
                · intro r n hf
                  have Hf := Lib.hid hf
                  clear hf
                  unfold relAt
                  go_simp
                  (first | (refine relUpon_val ?_ (Below.refl _ _); exact rfl) | exact rfl | (refine relUpon_enter ?_; fail))
                (simp only [Act.put, List.setIfInBounds_toArray, List.set_cons_zero, List.set_cons_succ])
                (with_reducible refine HK.out _ _ ?_)
                clear HK K)
             | (fail)))
        refine relNil ?_
        intro r4 n4 hx4
        clear hcH
        (try simp only [List.nil_append, List.cons_append, List.mem_cons, List.not_mem_nil, or_false, forall_eq_or_imp, forall_eq, false_implies, implies_true] at hx4)
        obtain ⟨w4, hb4⟩ := n4
        (try dsimp only)
        obtain ⟨hc4, hf4⟩ := bcell hb4
        have hz4 := hb4.size
        (try simp at hz4)
        have HR' := Lib.hid (HR.out.below hb4)
        have HO' := Lib.hid (HO.out.step (hb4.mono HO.out.size))
        have hF' := HF.out.below hb4
        clear HR HO HF c0 c1 c2 c3 d1 d2 x1 x2 f1 f2 hp hb hX hb4 hc4 hf4 hz4
        have HR := HR'
        have HO := HO'
        have HF := Lib.hid (hF')
        obtain ⟨c0, c1, c2, c3, d1, d2, x1, x2, f1, f2, hp, hb, hX⟩ := HF.out
        clear hF' HR' HO'
        go_wp2
        have hcH := held_cell
        refine region_rel (by kernel_rfl) (by kernel_rfl) ?_
        repeat
          ((with_reducible refine relStep (fun K hK => ?_))
           (have HK := Lib.hid hK)
           clear hK
           (first
             | (apply relInl
                · intro r n hf
                  have Hf := Lib.hid hf
                  clear hf
                  unfold relAt
                  go_simp
                  (first | (refine relUpon_val ?_ (Below.refl _ _); exact rfl) | exact rfl | (refine relUpon_enter ?_; fail))
                (simp only [Act.put, List.setIfInBounds_toArray, List.set_cons_zero, List.set_cons_succ])
                (with_reducible refine HK.out _ _ ?_)
                clear HK K)
             | (fail)))
        refine relNil ?_
        intro r5 n5 hx5
        clear hcH
        (try simp only [List.nil_append, List.cons_append, List.mem_cons, List.not_mem_nil, or_false, forall_eq_or_imp, forall_eq, false_implies, implies_true] at hx5)
        obtain ⟨w5, hb5⟩ := n5
        (try dsimp only)
        obtain ⟨hc5, hf5⟩ := bcell hb5
        have hz5 := hb5.size
        (try simp at hz5)
        have HR' := Lib.hid (HR.out.below hb5)
        have HO' := Lib.hid (HO.out.step (hb5.mono HO.out.size))
        have hF' := HF.out.below hb5
        clear HR HO HF c0 c1 c2 c3 d1 d2 x1 x2 f1 f2 hp hb hX hb5 hc5 hf5 hz5
        have HR := HR'
        have HO := HO'
        have HF := Lib.hid (hF')
        obtain ⟨c0, c1, c2, c3, d1, d2, x1, x2, f1, f2, hp, hb, hX⟩ := HF.out
        clear hF' HR' HO'
        go_wp2
        obtain ⟨V, hV⟩ : ∃ V, V = w5.setCell ⟨b, k * 3 + 1, none⟩ (.int .i64 (2 * l)) := ⟨_, rfl⟩
        have hFV : RF V p b n kc k X fi mo re l u (2 * l) := by rw [hV]; exact HF.out.set hbp hbX _
        have HOV := Lib.hid (show Only (turnS p (.slice (some ⟨b, 0, none⟩) n kc)) w1 V by rw [hV]; exact HO.out.setCell (.inl (by simp [turnS, Value.ownBlock])) _)
        have HRow := Lib.hid (show Blk V p 37 [.slice (some ⟨b, 0, none⟩) M.length kc, .int .i64 fi, .int .i64 mo, .int .i64 re] by rw [hV]; exact HR.out.row.other (by simpa using hbp.symm) _)
        have HOwn := Lib.hid (show V.ownsRow base 57 3 (.slice (some ⟨b, 0, none⟩) M.length kc) M.length ((M.flatMap ntc).set (k * 3 + 1) (.int .i64 (2 * l))) by rw [hV]; exact (HR.out.own.stored _ _).1)
        rw [← hV]
        clear hV HF HR HO c0 c1 c2 c3 d1 d2 x1 x2 f1 f2 hp hb hX
        have HF := Lib.hid (hFV)
        obtain ⟨c0, c1, c2, c3, d1, d2, x1, x2, f1, f2, hp, hb, hX⟩ := HF.out
        clear hFV
        have hcH := held_cell
        refine region_rel_tail 13 (by kernel_rfl) (by kernel_rfl) (by kernel_rfl) ?_
        dsimp only [List.take, List.drop]
        repeat
          ((with_reducible refine relStep (fun K hK => ?_))
           (have HK := Lib.hid hK)
           clear hK
           (apply relInl
            · intro r n hf
              have Hf := Lib.hid hf
              clear hf
              (first
                | (fail)
                | (unfold relAt
                   go_simp
                   (first | (refine relUpon_val ?_ (Below.refl _ _); exact rfl) | exact rfl | (refine relUpon_enter ?_; fail))))
            (simp only [Act.put, List.setIfInBounds_toArray, List.set_cons_zero, List.set_cons_succ])
            (with_reducible refine HK.out _ _ ?_)
            clear HK K))
        refine relNil ?_
        intro r6 n6 hx6
        clear hcH
        (try simp only [List.nil_append, List.cons_append, List.mem_cons, List.not_mem_nil, or_false, forall_eq_or_imp, forall_eq, false_implies, implies_true] at hx6)
        obtain ⟨w6, hb6⟩ := n6
        (try dsimp only)
        obtain ⟨hc6, hf6⟩ := bcell hb6
        have hz6 := hb6.size
        (try simp at hz6)
        have hF6 := HF.out.below hb6
        have HO6 := Lib.hid (HOV.out.step (hb6.mono HOV.out.size))
        have HRow6 := Lib.hid (HRow.out.below hb6)
        have HOwn6 := Lib.hid (own_kept HOwn.out hb6)
        clear HF HOV HRow HOwn c0 c1 c2 c3 d1 d2 x1 x2 f1 f2 hp hb hX hb6 hc6 hf6 hz6
        have HF := Lib.hid (hF6)
        obtain ⟨c0, c1, c2, c3, d1, d2, x1, x2, f1, f2, hp, hb, hX⟩ := HF.out
        clear hF6
        go_wp2
        go_ret
        have e9 := (HOwn6.out.stored (k * 3 + 2) (.int .i64 (now + (2 * l)))).1
        rw [rows_set (2 * l) (now + (2 * l)) nu M k _ Hx.out] at e9
        have hO9 := HO6.out.setCell (p := ⟨b, k * 3 + 2, none⟩) (.inl (by simp [turnS, Value.ownBlock])) (.int .i64 (now + (2 * l)))
        have h9 := HRow6.out.other (p := ⟨b, k * 3 + 2, none⟩) hbp.symm (.int .i64 (now + (2 * l)))
        rw [HL.out, HN.out]
        refine ⟨rfl, ⟨?_, ?_, (fun e => hbp (Option.some.inj e)), hpb⟩, ?_⟩
        · exact h9
        · rw [List.length_set]
          exact e9
        · exact hO9
      · skip
        have hN : newF fi mo re cr (some ⟨l, u, nu⟩) now = ⟨2 * l, u, nu⟩ := by
          show (⟨lenF fi mo re (some ⟨l, u, nu⟩) now, max u (now + lenF fi mo re (some ⟨l, u, nu⟩) now), nu⟩ : En) = _
          rw [hL, show max u (now + (2 * l)) = u by omega]
        have HN := Lib.hid hN
        have HL := Lib.hid hL
        clear hN hL hLf hLn
        have hcH := held_cell
        refine region_rel (by kernel_rfl) (by kernel_rfl) ?_
        repeat
          ((with_reducible refine relStep (fun K hK => ?_))
           (have HK := Lib.hid hK)
           clear hK
           (first
             | (apply relInl
                · intro r n hf
                  have Hf := Lib.hid hf
                  clear hf
                  unfold relAt
                  go_simp
                  (first | (refine relUpon_val ?_ (Below.refl _ _); exact rfl) | exact rfl | (refine relUpon_enter ?_; fail))
                (simp only [Act.put, List.setIfInBounds_toArray, List.set_cons_zero, List.set_cons_succ])
                (with_reducible refine HK.out _ _ ?_)
                clear HK K)
             | (fail)))
        refine relNil ?_
        intro r4 n4 hx4
        clear hcH
        (try simp only [List.nil_append, List.cons_append, List.mem_cons, List.not_mem_nil, or_false, forall_eq_or_imp, forall_eq, false_implies, implies_true] at hx4)
        obtain ⟨w4, hb4⟩ := n4
        (try dsimp only)
        obtain ⟨hc4, hf4⟩ := bcell hb4
        have hz4 := hb4.size
        (try simp at hz4)
        have HR' := Lib.hid (HR.out.below hb4)
        have HO' := Lib.hid (HO.out.step (hb4.mono HO.out.size))
        have hF' := HF.out.below hb4
        clear HR HO HF c0 c1 c2 c3 d1 d2 x1 x2 f1 f2 hp hb hX hb4 hc4 hf4 hz4
        have HR := HR'
        have HO := HO'
        have HF := Lib.hid (hF')
        obtain ⟨c0, c1, c2, c3, d1, d2, x1, x2, f1, f2, hp, hb, hX⟩ := HF.out
        clear hF' HR' HO'
        go_wp2
        have hcH := held_cell
        refine region_rel (by kernel_rfl) (by kernel_rfl) ?_
        repeat
          ((with_reducible refine relStep (fun K hK => ?_))
           (have HK := Lib.hid hK)
           clear hK
           (first
             | (apply relInl
                · intro r n hf
                  have Hf := Lib.hid hf
                  clear hf
                  unfold relAt
                  go_simp
                  (first | (refine relUpon_val ?_ (Below.refl _ _); exact rfl) | exact rfl | (refine relUpon_enter ?_; fail))
                (simp only [Act.put, List.setIfInBounds_toArray, List.set_cons_zero, List.set_cons_succ])
                (with_reducible refine HK.out _ _ ?_)
                clear HK K)
             | (fail)))
        refine relNil ?_
        intro r5 n5 hx5
        clear hcH
        (try simp only [List.nil_append, List.cons_append, List.mem_cons, List.not_mem_nil, or_false, forall_eq_or_imp, forall_eq, false_implies, implies_true] at hx5)
        obtain ⟨w5, hb5⟩ := n5
        (try dsimp only)
        obtain ⟨hc5, hf5⟩ := bcell hb5
        have hz5 := hb5.size
        (try simp at hz5)
        have HR' := Lib.hid (HR.out.below hb5)
        have HO' := Lib.hid (HO.out.step (hb5.mono HO.out.size))
        have hF' := HF.out.below hb5
        clear HR HO HF c0 c1 c2 c3 d1 d2 x1 x2 f1 f2 hp hb hX hb5 hc5 hf5 hz5
        have HR := HR'
        have HO := HO'
        have HF := Lib.hid (hF')
        obtain ⟨c0, c1, c2, c3, d1, d2, x1, x2, f1, f2, hp, hb, hX⟩ := HF.out
        clear hF' HR' HO'
        go_wp2
        obtain ⟨V, hV⟩ : ∃ V, V = w5.setCell ⟨b, k * 3 + 1, none⟩ (.int .i64 (2 * l)) := ⟨_, rfl⟩
        have hFV : RF V p b n kc k X fi mo re l u (2 * l) := by rw [hV]; exact HF.out.set hbp hbX _
        have HOV := Lib.hid (show Only (turnS p (.slice (some ⟨b, 0, none⟩) n kc)) w1 V by rw [hV]; exact HO.out.setCell (.inl (by simp [turnS, Value.ownBlock])) _)
        have HRow := Lib.hid (show Blk V p 37 [.slice (some ⟨b, 0, none⟩) M.length kc, .int .i64 fi, .int .i64 mo, .int .i64 re] by rw [hV]; exact HR.out.row.other (by simpa using hbp.symm) _)
        have HOwn := Lib.hid (show V.ownsRow base 57 3 (.slice (some ⟨b, 0, none⟩) M.length kc) M.length ((M.flatMap ntc).set (k * 3 + 1) (.int .i64 (2 * l))) by rw [hV]; exact (HR.out.own.stored _ _).1)
        rw [← hV]
        clear hV HF HR HO c0 c1 c2 c3 d1 d2 x1 x2 f1 f2 hp hb hX
        have HF := Lib.hid (hFV)
        obtain ⟨c0, c1, c2, c3, d1, d2, x1, x2, f1, f2, hp, hb, hX⟩ := HF.out
        clear hFV
        have hcH := held_cell
        refine region_rel_tail 13 (by kernel_rfl) (by kernel_rfl) (by kernel_rfl) ?_
        dsimp only [List.take, List.drop]
        repeat
          ((with_reducible refine relStep (fun K hK => ?_))
           (have HK := Lib.hid hK)
           clear hK
           (apply relInl
            · intro r n hf
              have Hf := Lib.hid hf
              clear hf
              (first
                | (fail)
                | (unfold relAt
                   go_simp
                   (first | (refine relUpon_val ?_ (Below.refl _ _); exact rfl) | exact rfl | (refine relUpon_enter ?_; fail))))
            (simp only [Act.put, List.setIfInBounds_toArray, List.set_cons_zero, List.set_cons_succ])
            (with_reducible refine HK.out _ _ ?_)
            clear HK K))
        refine relNil ?_
        intro r6 n6 hx6
        clear hcH
        (try simp only [List.nil_append, List.cons_append, List.mem_cons, List.not_mem_nil, or_false, forall_eq_or_imp, forall_eq, false_implies, implies_true] at hx6)
        obtain ⟨w6, hb6⟩ := n6
        (try dsimp only)
        obtain ⟨hc6, hf6⟩ := bcell hb6
        have hz6 := hb6.size
        (try simp at hz6)
        have hF6 := HF.out.below hb6
        have HO6 := Lib.hid (HOV.out.step (hb6.mono HOV.out.size))
        have HRow6 := Lib.hid (HRow.out.below hb6)
        have HOwn6 := Lib.hid (own_kept HOwn.out hb6)
        clear HF HOV HRow HOwn c0 c1 c2 c3 d1 d2 x1 x2 f1 f2 hp hb hX hb6 hc6 hf6 hz6
        have HF := Lib.hid (hF6)
        obtain ⟨c0, c1, c2, c3, d1, d2, x1, x2, f1, f2, hp, hb, hX⟩ := HF.out
        clear hF6
        go_wp2
        go_ret
        have e9 := (HOwn6.out.stored (k * 3 + 2) (.int .i64 (u))).1
        rw [rows_set (2 * l) (u) nu M k _ Hx.out] at e9
        have hO9 := HO6.out.setCell (p := ⟨b, k * 3 + 2, none⟩) (.inl (by simp [turnS, Value.ownBlock])) (.int .i64 (u))
        have h9 := HRow6.out.other (p := ⟨b, k * 3 + 2, none⟩) hbp.symm (.int .i64 (u))
        rw [HL.out, HN.out]
        refine ⟨rfl, ⟨?_, ?_, (fun e => hbp (Option.some.inj e)), hpb⟩, ?_⟩
        · exact h9
        · rw [List.length_set]
          exact e9
        · exact hO9
end Go.Proofs.Ytedombidblhmeaa
