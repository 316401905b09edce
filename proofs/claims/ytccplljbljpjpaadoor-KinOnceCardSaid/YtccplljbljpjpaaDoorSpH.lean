/-
  The program's forms: newForm, term, toleration.
-/
import Derived.Test.YtccplljbljpjpaaDoorSpG
namespace Go.Proofs.YtccplljbljpjpaaDoor
open Go.RowKit
set_option linter.unusedVariables false
set_option linter.unusedSimpArgs false

theorem sum_le {P : List ByteArray} {c : Nat} (h : ∀ y ∈ P, y.size ≤ c) : sumL P ≤ P.length * c := by
  induction P with
  | nil => exact Nat.zero_le _
  | cons x P ih =>
    have h1 := h x List.mem_cons_self
    have h2 := ih fun y hy => h y (List.mem_cons_of_mem _ hy)
    show x.size + sumL P ≤ _
    rw [List.length_cons, Nat.succ_mul]
    omega
theorem own_new (w : World) (base : Nat) (P : List ByteArray) (hb : base ≤ w.heap.size) (hP : P.length ≤ 1000000) : OwnL scs 1 base 9 P (.slice (some ⟨w.heap.size, 0, none⟩) P.length P.length) (w.alloc (.cells (P.map Value.string).toArray 9)) := by
  have e : P.flatMap scs = P.map Value.string := by
    induction P with
    | nil => rfl
    | cons x P ih =>
      rw [List.flatMap_cons, ih (by rw [List.length_cons] at hP; omega)]
      rfl
  unfold OwnL
  rw [e]
  refine ⟨by simp, .inr ⟨w.heap.size, P.length, (P.map Value.string).toArray, rfl, hb, ?_, Nat.le_refl _, by unfold maxLen; omega, by simp, ?_⟩⟩
  · show (w.heap.push _)[w.heap.size]? = _
    simp
  · show (P.map Value.string).take (P.length * 1) = _
    rw [Nat.mul_one, List.take_of_length_le (by simp)]
set_option maxRecDepth 100000 in
set_option maxHeartbeats 4000000 in
theorem newform_any (base : Nat) (L : List ByteArray) (v : Value) (w : World) (hO : w.ownsRow base 9 1 v L.length (L.flatMap scs)) (hb : base ≤ w.heap.size) :
    Calls Tryd.prog 36 #[v] w fun e w' => e = .returned (.pointer (some ⟨w.heap.size, 0, none⟩)) ∧ FmAt base w.heap.size L w' ∧ Below w.heap.size w w' := by
  obtain ⟨a, c, rfl⟩ := own_sl hO
  have HO := Lib.hid hO
  clear hO
  go_enter Tryd.func36, Tryd.ntmps36
  go_wp2
  refine bodyPost_ret (v := .pointer (some ⟨w.heap.size, 0, none⟩)) (by simp [results, Tryd.results36, go_sem]) rfl ⟨rfl, ⟨hb, _, Blk.new w 87 [.slice a L.length c], HO.out.alloc _⟩, (Below.refl _ _).alloc (Nat.le_refl _) _⟩
set_option maxRecDepth 100000 in
set_option maxHeartbeats 8000000 in
theorem sterm_any (base q : Nat) (L : List ByteArray) (t : Lb.Trm) (w : World) (hF : FmAt base q L w) (hT : Lb.TrmAt w t) (hW : WT w) (hL : L.length ≤ 1000) (hlt : Lb.lightTm t = true) (hop : t.op = 1 ∨ t.op = 2 ∨ t.op = 3 ∨ t.op = 4 ∨ t.op = 5 ∨ t.op = 6) :
    Calls Tryd.prog 42 #[.pointer (some ⟨q, 0, none⟩), .agg #[.string t.key, .int .i64 t.op, .slice t.va t.vals.length t.vk]] w (FmGives base q (L ++ [tmP t]) w) := by
  obtain ⟨key, op, va, vk, vals⟩ := t
  dsimp only at hT hop ⊢
  obtain ⟨hl1, hl2, hl3⟩ := Lb.lightTm_ok hlt
  dsimp only at hl1 hl2 hl3
  obtain ⟨jj, hop, hj7, hjo, hoz⟩ := ops_at hop
  have hqs := hF.lt
  have hbq := hF.hb
  obtain ⟨nv, hnv⟩ : ∃ n, vals.length = n := ⟨_, rfl⟩
  obtain ⟨ob, hob⟩ : ∃ n, opsB op = n := ⟨_, rfl⟩
  have htp : tmP ⟨key, op, va, vk, vals⟩ = fmB ([⟨#[116, 101, 114, 109]⟩, key, ob] ++ vals.map atB) := by unfold tmP; rw [hob]
  have HTp := Lib.hid htp
  rw [hob] at hjo hoz
  have HOp := Lib.hid hop
  rw [hop, hnv]
  rw [hnv] at hl1
  have Hnv := Lib.hid hnv
  have HL3 := Lib.hid hl3
  obtain ⟨W, hW1⟩ : ∃ V, V = w.alloc (.cells #[.string key, .int .i64 jj, .slice va nv vk] 54) := ⟨_, rfl⟩
  have HX := Lib.hid (show Box w.heap.size [.string key, .int .i64 jj, .slice va nv vk] W by rw [hW1]; exact Box.new w [.string key, .int .i64 jj, .slice va nv vk] 54)
  have hba : Below w.heap.size w W := by rw [hW1]; exact (Below.refl _ _).alloc (Nat.le_refl _) _
  have HBa := Lib.hid hba
  have HFw := Lib.hid (hF.below hba)
  have HTv := Lib.hid (hT.1.mono hba)
  have hWW := hW.mono hba hW.sz
  have e0 : W.cell? ⟨0, jj, none⟩ = some (.string ob) := hWW.op jj ob hjo
  have eb : 0 < W.heap.size := by have := hWW.sz; omega
  have x0 : W.cell? ⟨w.heap.size, 0, none⟩ = some (.string key) := HX.out.cell 0
  have x1 : W.cell? ⟨w.heap.size, 1, none⟩ = some (.int .i64 jj) := HX.out.cell 1
  have hlx := HX.out.lt
  have hjb : ((jj : Int) < 7) = True := eq_true (by omega)
  obtain ⟨i0, hi, hz0, hz1, hz2⟩ := info_parts Tryd.info9
  have Hi := Lib.hid hi
  have Hz0 := Lib.hid hz0
  have Hz1 := Lib.hid hz1
  have Hz2 := Lib.hid hz2
  clear hi hz0 hz1 hz2
  clear hF hT hW hlt hop hjo hob htp hnv hl3 hba hWW
  go_enter Tryd.func42, Tryd.ntmps42
  go_upto_region 1 with (fail)
  rw [← hW1]
  clear hW1
  have hcH := held_cell
  refine region_rel_tail 7 (by kernel_rfl) (by kernel_rfl) (by kernel_rfl) ?_
  dsimp only [List.take, List.drop]
  repeat
    ((with_reducible refine relStep (fun K hK => ?_))
     (have HK := Lib.hid hK)
     clear hK
     (apply relInl
      · intro r n hf
        have Hf := Lib.hid hf
        clear hf
        (first
          | (fail)
          | (unfold relAt
             go_simp
             (first | (refine relUpon_val ?_ (Below.refl _ _); exact rfl) | exact rfl | (refine relUpon_enter ?_; fail))))
      (simp only [Act.put, List.setIfInBounds_toArray, List.set_cons_zero, List.set_cons_succ])
      (with_reducible refine HK.out _ _ ?_)
      clear HK K))
  (with_reducible refine relStep (fun K hK => ?_))
  (have HK := Lib.hid hK)
  clear hK
  refine relInr (OwnL scs 1 W.heap.size 9 [⟨#[116, 101, 114, 109]⟩, key, ob]) (OwnL.stays _ _ _ _ _) (fun r n hf => ?_) ?_
  · have Hf := Lib.hid hf
    clear hf HK K
    unfold relAt
    (skip)
    go_simp
    ((refine relUpon_val ?_ ?_; exact own_new n.w W.heap.size [⟨#[116, 101, 114, 109]⟩, key, ob] n.below.size (by simp); exact (Below.refl _ _).alloc (Nat.le_refl _) _))
  (simp only [Act.put, List.setIfInBounds_toArray, List.set_cons_zero, List.set_cons_succ])
  (with_reducible refine HK.out _ _ ?_)
  clear HK K
  refine relNil ?_
  intro r9 n9 hx9
  clear hcH
  (try simp only [List.nil_append, List.cons_append, List.mem_cons, List.not_mem_nil, or_false, forall_eq_or_imp, forall_eq, false_implies, implies_true] at hx9)
  obtain ⟨w9, hb9⟩ := n9
  (try dsimp only)
  obtain ⟨hc9, hf9⟩ := bcell hb9
  have hz9 := hb9.size
  (try simp at hz9)
  have hx : w9.ownsRow W.heap.size 9 1 (r9 6) 3 ([⟨#[116, 101, 114, 109]⟩, key, ob].flatMap scs) := hx9
  clear hx9
  obtain ⟨a9, k9, e9⟩ := own_sl hx
  rw [e9] at hx
  (try simp only [Nat.zero_add, Nat.reduceAdd])
  rw [e9]
  have HO9 := Lib.hid hx
  have HB9 := Lib.hid hb9
  have HX9 := Lib.hid (HX.out.mono hb9)
  clear hx e9 hb9 hc9 hf9 hz9 x0 x1 e0 eb hlx hjb
  have z2 : w9.cell? ⟨w.heap.size, 2, none⟩ = some (.slice va nv vk) := HX9.out.cell 2
  have hlx := HX9.out.lt
  go_wp2
  clear z2 hlx
  go_loopw [4, 17] (fun v4 vi wr => ∃ (k : Nat) (Q : List ByteArray), k ≤ nv ∧ vi = .int .i64 k ∧ Q = [⟨#[116, 101, 114, 109]⟩, key, ob] ++ (vals.take k).map atB ∧ Q.length = 3 + k ∧ wr.ownsRow W.heap.size 9 1 v4 Q.length (Q.flatMap scs) ∧ Below W.heap.size W wr) (fun _ vi _ => nv - (intOf vi).toNat)
  case atStart => exact ⟨0, [⟨#[116, 101, 114, 109]⟩, key, ob], Nat.zero_le _, rfl, rfl, rfl, HO9.out, HB9.out⟩
  case round =>
    obtain ⟨k, Q, hk, rfl, hE, hQl, hO, hB⟩ := hrel
    have HE := Lib.hid hE
    have HB := Lib.hid hB
    have HO := Lib.hid hO
    have hbz := hB.size
    obtain ⟨ao, ko, rfl⟩ := own_sl hO
    by_cases hlt : k < nv
    · obtain ⟨v, hv⟩ := mem_at (l := vals) (k := k) (by rw [Hnv.out]; exact hlt)
      obtain ⟨bv, ov, rfl, hbv, hcv⟩ := (HTv.out.mono hB) (by rw [Hnv.out]; omega)
      have c0 : wr.cell? ⟨bv, ov + k, none⟩ = some (.string v) := by
        have h9 := hcv k v hv 0 (by decide)
        rw [Nat.mul_one, Nat.add_zero] at h9
        exact h9
      have HA := Lib.hid (fun V => satom_any v V)
      have hnx : Q ++ [atB v] = [⟨#[116, 101, 114, 109]⟩, key, ob] ++ (vals.take (k + 1)).map atB := by
        rw [hE, List.take_add_one, hv, List.map_append, List.append_assoc]
        rfl
      obtain ⟨x, hx⟩ : ∃ x, atB v = x := ⟨_, rfl⟩
      rw [hx] at HA hnx
      have HNx := Lib.hid hnx
      have hQk : Q.length ≤ 43 := by omega
      have HQl := Lib.hid hQl
      clear hE hO hB hv hcv hnx hx hQl
      go_wp2_with (first
        | (go_at_call 55; (with_reducible refine (HA.out _).mono ?_); rintro e w7 ⟨rfl, hb⟩; have HB7 := Lib.hid (HB.out.trans (hb.mono hbz)); have HO7 := Lib.hid (own_kept HO.out hb); have hbz7 := Nat.le_trans hbz hb.size; clear hb)
        | (at_builtin; refine wpList_append_src rfl (.tmp 21) (.tmp 24) 46 rfl W.heap.size 9 i0 _ 1 16 Tryd.underlying46 Hi.out Hz0.out Hz1.out Hz2.out rfl (by decide) _ Q.length (Q.flatMap scs) rfl (HO7.out.alloc _) (some ⟨w7.heap.size, 0, none⟩) 1 1 (scs x) rfl rfl (fun q e => by injection e with e; rw [← e]; exact news_at _ _ _) (fun e => by cases e) (scs_one x) (by unfold maxLen; omega) (by omega) (by simp; omega) ?_; intro v6 w6 hown6 hgrow6; obtain ⟨a6, k6, rfl⟩ := own_sl hown6; have HB6 := Lib.hid (own_below (HO7.out.alloc _) (HB7.out.alloc hbz7 _) (by simp; omega) hgrow6); have HO6 := Lib.hid hown6; clear hown6 hgrow6))
      go_roundw
      case rel =>
        refine ⟨k + 1, Q ++ [x], by omega, by go_num, HNx.out, by rw [List.length_append, HQl.out]; show 3 + k + 1 = _; omega, ?_, HB6.out⟩
        rw [List.length_append, List.flatMap_append]
        have h9 := HO6.out
        simpa using h9
      case measure => simp [intOf]; omega
    · obtain rfl : k = nv := by omega
      have hQ : Q = [⟨#[116, 101, 114, 109]⟩, key, ob] ++ vals.map atB := by rw [hE, List.take_of_length_le (by rw [Hnv.out]; exact Nat.le_refl _)]
      have HTq := Lib.hid (show tmP ⟨key, op, va, vk, vals⟩ = fmB Q by rw [HTp.out, hQ])
      obtain ⟨_, _, e1, -, hr⟩ := IsL.of_own scs_len (by decide) hO
      injection e1 with e1 e2 e3
      subst e1
      have hcp := own_cap hO
      have hsz : (joinB Q).size ≤ 1000000 := by
        have h1 := join_size Q
        have h2 : sumL Q ≤ Q.length * 300 := sum_le (fun y hy => by
          rw [hQ] at hy
          rcases List.mem_append.1 hy with hy | hy
          · simp only [List.mem_cons, List.not_mem_nil, or_false] at hy
            rcases hy with rfl | rfl | rfl
            · decide
            · exact hl2
            · omega
          · obtain ⟨z, hz, rfl⟩ := List.mem_map.1 hy
            exact atB_size (HL3.out z hz))
        rw [hQl] at h1 h2
        omega
      have HAd := Lib.hid (add_any base q L Q ao ko wr (HFw.out.below hB) hr (by omega) hcp.2 (by omega) hsz (by omega))
      have hbW := HBa.out.size
      clear hE hO hr e2 e3 hQ hcp hsz hQl
      go_wp2_with (go_at_call 37; (with_reducible refine HAd.out.mono ?_); rintro e w7 ⟨rfl, hf, hb⟩; have HF7 := Lib.hid hf; have HB7 := Lib.hid hb; clear hf hb)
      go_end0
      exact ⟨rfl, by rw [← HOp.out, HTq.out]; exact HF7.out, (HBa.out.mono (by omega)).trans ((hB.mono (by omega)).trans HB7.out)⟩
set_option maxRecDepth 100000 in
set_option maxHeartbeats 8000000 in
theorem stol_any (base q : Nat) (L : List ByteArray) (b : Tol) (w : World) (hF : FmAt base q L w) (hW : WT w) (hL : L.length ≤ 1000) (hk : b.key.size ≤ 300) (hv : b.val.size ≤ 300) (hef : reB b.eff = true) :
    Calls Tryd.prog 43 #[.pointer (some ⟨q, 0, none⟩), .agg #[.string b.key, .string b.val, .bool b.any, .int .i64 b.eff]] w (FmGives base q (L ++ [beP b]) w) := by
  obtain ⟨key, val, any, eff⟩ := b
  dsimp only at hk hv hef ⊢
  obtain ⟨jj, hop, hj7, hjo, hoz⟩ := eff_at hef
  have hqs := hF.lt
  have hbq := hF.hb
  have hbe : beP ⟨key, val, any, eff⟩ = if any = true then fmB [⟨#[98, 101, 97, 114, 97, 110, 121]⟩, atB key, efwB eff] else fmB [⟨#[98, 101, 97, 114]⟩, atB key, atB val, efwB eff] := rfl
  have za1 := atB_size hk
  have za2 := atB_size hv
  have HA1 := Lib.hid (fun V => satom_any key V)
  have HA2 := Lib.hid (fun V => satom_any val V)
  obtain ⟨ob, hob⟩ : ∃ n, efwB eff = n := ⟨_, rfl⟩
  obtain ⟨a1, ha1⟩ : ∃ n, atB key = n := ⟨_, rfl⟩
  obtain ⟨a2, ha2⟩ : ∃ n, atB val = n := ⟨_, rfl⟩
  rw [hob, ha1, ha2] at hbe
  rw [hob] at hjo hoz
  rw [ha1] at za1 HA1
  rw [ha2] at za2 HA2
  rw [hbe, hop]
  obtain ⟨W, hW1⟩ : ∃ V, V = w.alloc (.cells #[.string key, .string val, .bool any, .int .i64 jj] 70) := ⟨_, rfl⟩
  have HX := Lib.hid (show Box w.heap.size [.string key, .string val, .bool any, .int .i64 jj] W by rw [hW1]; exact Box.new w [.string key, .string val, .bool any, .int .i64 jj] 70)
  have hba : Below w.heap.size w W := by rw [hW1]; exact (Below.refl _ _).alloc (Nat.le_refl _) _
  have HBa := Lib.hid (hba.mono (show base ≤ w.heap.size by omega))
  have HFw := Lib.hid (hF.below hba)
  have hWW := hW.mono hba hW.sz
  have e0 : W.cell? ⟨1, jj, none⟩ = some (.string ob) := hWW.ef jj ob hjo
  have eb : 1 < W.heap.size := by have := hWW.sz; omega
  have x0 : W.cell? ⟨w.heap.size, 0, none⟩ = some (.string key) := HX.out.cell 0
  have x1 : W.cell? ⟨w.heap.size, 1, none⟩ = some (.string val) := HX.out.cell 1
  have x2 : W.cell? ⟨w.heap.size, 2, none⟩ = some (.bool any) := HX.out.cell 2
  have x3 : W.cell? ⟨w.heap.size, 3, none⟩ = some (.int .i64 jj) := HX.out.cell 3
  have hlx := HX.out.lt
  have hjb : ((jj : Int) < 4) = True := eq_true (by omega)
  have hbz := hba.size
  clear hF hW hjo hop hef hob ha1 ha2 hbe hba hWW
  cases any with
  | true =>
    have HJz := Lib.hid (show (joinB [⟨#[98, 101, 97, 114, 97, 110, 121]⟩, a1, ob]).size ≤ 1000000 from Nat.le_trans (join_size _) (by show (⟨#[98, 101, 97, 114, 97, 110, 121]⟩ : ByteArray).size + (a1.size + (ob.size + 0)) + 3 ≤ _; have : (⟨#[98, 101, 97, 114, 97, 110, 121]⟩ : ByteArray).size ≤ 10 := (by decide); omega))
    go_enter Tryd.func43, Tryd.ntmps43
    go_upto_region 1 with (fail)
    rw [← hW1]
    clear hW1
    go_upto_region 2 with (fail)
    have hcH := held_cell
    refine region_rel_tail 9 (by kernel_rfl) (by kernel_rfl) (by kernel_rfl) ?_
    dsimp only [List.take, List.drop]
    repeat
      ((with_reducible refine relStep (fun K hK => ?_))
       (have HK := Lib.hid hK)
       clear hK
       (apply relInl
        · intro r n hf
          have Hf := Lib.hid hf
          clear hf
          (first
            | (fail)
            | (unfold relAt
               go_simp
               (first | (refine relUpon_val ?_ (Below.refl _ _); exact rfl) | exact rfl | (refine relUpon_enter ?_; (go_at_call 55; first | ((with_reducible refine (HA1.out _).mono ?_); rintro e w9 ⟨rfl, hb⟩; exact ⟨⟨_, rfl, rfl⟩, hb⟩) | ((with_reducible refine (HA2.out _).mono ?_); rintro e w9 ⟨rfl, hb⟩; exact ⟨⟨_, rfl, rfl⟩, hb⟩))))))
        (simp only [Act.put, List.setIfInBounds_toArray, List.set_cons_zero, List.set_cons_succ])
        (with_reducible refine HK.out _ _ ?_)
        clear HK K))
    (with_reducible refine relStep (fun K hK => ?_))
    (have HK := Lib.hid hK)
    clear hK
    refine relInr (IsTx [⟨#[98, 101, 97, 114, 97, 110, 121]⟩, a1, ob] 3) (IsTx.stays _ _) (fun r n hf => ?_) ?_
    · have Hf := Lib.hid hf
      clear hf HK K
      unfold relAt
      (skip)
      go_simp
      ((refine relUpon_val ?_ ?_; exact ⟨_, rfl, by simp, tx_new [⟨#[98, 101, 97, 114, 97, 110, 121]⟩, a1, ob] n.w _⟩; exact (Below.refl _ _).alloc (Nat.le_refl _) _))
    (simp only [Act.put, List.setIfInBounds_toArray, List.set_cons_zero, List.set_cons_succ])
    (with_reducible refine HK.out _ _ ?_)
    clear HK K
    refine relNil ?_
    intro r9 n9 hx9
    clear hcH
    (try simp only [List.nil_append, List.cons_append, List.mem_cons, List.not_mem_nil, or_false, forall_eq_or_imp, forall_eq, false_implies, implies_true] at hx9)
    obtain ⟨w9, hb9⟩ := n9
    (try dsimp only)
    obtain ⟨hc9, hf9⟩ := bcell hb9
    have hz9 := hb9.size
    (try simp at hz9)
    obtain ⟨bb, e9, hbb0, hcc⟩ := hx9
    have hbb : bb < w9.heap.size := hbb0
    (try simp only [Nat.zero_add, Nat.reduceAdd] at e9 ⊢)
    have HR9 := Lib.hid (istx_rows hbb hcc)
    rw [e9]
    have HB9 := Lib.hid hb9
    clear hcc e9 hbb0 hb9 hc9 hf9 hz9
    clear x0 x1 x2 x3 e0 eb hlx
    go_wp2_with (go_at_call 37; (refine (add_any base q L [⟨#[98, 101, 97, 114, 97, 110, 121]⟩, a1, ob] (some ⟨bb, 0, none⟩) 3 w9 (HFw.out.below HB9.out) HR9.out (by simp) (by simp) (by simp) HJz.out (by omega)).mono ?_); rintro e w3 ⟨rfl, hf, hb⟩; have HFw3 := Lib.hid hf; have HBw3 := Lib.hid hb; clear hf hb)
    go_end0
    exact ⟨rfl, HFw3.out, HBa.out.trans ((HB9.out.mono (by omega)).trans HBw3.out)⟩
  | false =>
    have HJz := Lib.hid (show (joinB [⟨#[98, 101, 97, 114]⟩, a1, a2, ob]).size ≤ 1000000 from Nat.le_trans (join_size _) (by show (⟨#[98, 101, 97, 114]⟩ : ByteArray).size + (a1.size + (a2.size + (ob.size + 0))) + 4 ≤ _; have : (⟨#[98, 101, 97, 114]⟩ : ByteArray).size ≤ 10 := (by decide); omega))
    go_enter Tryd.func43, Tryd.ntmps43
    go_upto_region 1 with (fail)
    rw [← hW1]
    clear hW1
    go_upto_region 3 with (fail)
    have hcH := held_cell
    refine region_rel_tail 12 (by kernel_rfl) (by kernel_rfl) (by kernel_rfl) ?_
    dsimp only [List.take, List.drop]
    repeat
      ((with_reducible refine relStep (fun K hK => ?_))
       (have HK := Lib.hid hK)
       clear hK
       (apply relInl
        · intro r n hf
          have Hf := Lib.hid hf
          clear hf
          (first
            | (fail)
            | (unfold relAt
               go_simp
               (first | (refine relUpon_val ?_ (Below.refl _ _); exact rfl) | exact rfl | (refine relUpon_enter ?_; (go_at_call 55; first | ((with_reducible refine (HA1.out _).mono ?_); rintro e w9 ⟨rfl, hb⟩; exact ⟨⟨_, rfl, rfl⟩, hb⟩) | ((with_reducible refine (HA2.out _).mono ?_); rintro e w9 ⟨rfl, hb⟩; exact ⟨⟨_, rfl, rfl⟩, hb⟩))))))
        (simp only [Act.put, List.setIfInBounds_toArray, List.set_cons_zero, List.set_cons_succ])
        (with_reducible refine HK.out _ _ ?_)
        clear HK K))
    (with_reducible refine relStep (fun K hK => ?_))
    (have HK := Lib.hid hK)
    clear hK
    refine relInr (IsTx [⟨#[98, 101, 97, 114]⟩, a1, a2, ob] 4) (IsTx.stays _ _) (fun r n hf => ?_) ?_
    · have Hf := Lib.hid hf
      clear hf HK K
      unfold relAt
      (skip)
      go_simp
      ((refine relUpon_val ?_ ?_; exact ⟨_, rfl, by simp, tx_new [⟨#[98, 101, 97, 114]⟩, a1, a2, ob] n.w _⟩; exact (Below.refl _ _).alloc (Nat.le_refl _) _))
    (simp only [Act.put, List.setIfInBounds_toArray, List.set_cons_zero, List.set_cons_succ])
    (with_reducible refine HK.out _ _ ?_)
    clear HK K
    refine relNil ?_
    intro r9 n9 hx9
    clear hcH
    (try simp only [List.nil_append, List.cons_append, List.mem_cons, List.not_mem_nil, or_false, forall_eq_or_imp, forall_eq, false_implies, implies_true] at hx9)
    obtain ⟨w9, hb9⟩ := n9
    (try dsimp only)
    obtain ⟨hc9, hf9⟩ := bcell hb9
    have hz9 := hb9.size
    (try simp at hz9)
    obtain ⟨bb, e9, hbb0, hcc⟩ := hx9
    have hbb : bb < w9.heap.size := hbb0
    (try simp only [Nat.zero_add, Nat.reduceAdd] at e9 ⊢)
    have HR9 := Lib.hid (istx_rows hbb hcc)
    rw [e9]
    have HB9 := Lib.hid hb9
    clear hcc e9 hbb0 hb9 hc9 hf9 hz9
    clear x0 x1 x2 x3 e0 eb hlx
    go_wp2_with (go_at_call 37; (refine (add_any base q L [⟨#[98, 101, 97, 114]⟩, a1, a2, ob] (some ⟨bb, 0, none⟩) 4 w9 (HFw.out.below HB9.out) HR9.out (by simp) (by simp) (by simp) HJz.out (by omega)).mono ?_); rintro e w3 ⟨rfl, hf, hb⟩; have HFw3 := Lib.hid hf; have HBw3 := Lib.hid hb; clear hf hb)
    go_end0
    exact ⟨rfl, HFw3.out, HBa.out.trans ((HB9.out.mono (by omega)).trans HBw3.out)⟩
end Go.Proofs.YtccplljbljpjpaaDoor
