/-
  Kin: the document's Groups.
-/
import Derived.Test.YtccplljbljpjpaaGreatDoorKi7
import Derived.Test.YtccplljbljpjpaaGreatDoorKiP
namespace Go.Proofs.YtccplljbljpjpaaGreatDoor
open Go.ChangeShapes Go.WideShapes Go.ChangeAt Go.RowKit
set_option linter.unusedVariables false
set_option linter.unusedSimpArgs false

theorem own_base {w : World} {B B' n k : Nat} {e : TypeId} {v : Value} {xs : List Value} (h : w.ownsRow B' e k v n xs) (hb : B ≤ B') : w.ownsRow B e k v n xs := by
  obtain ⟨hl, hv | ⟨g, cap, cur, rfl, hg, r⟩⟩ := h
  · exact ⟨hl, .inl hv⟩
  · exact ⟨hl, .inr ⟨g, cap, cur, rfl, Nat.le_trans hb hg, r⟩⟩
theorem RO.repl {B : Nat} {vs : List Value} {G : List (List Int)} {w w' : World} (h : RO B vs G w) {i : Nat} {v' : Value} {xs : List Int} (hb : Below w.heap.size w w') (hs : B ≤ w.heap.size)
    (ho : w'.ownsRow w.heap.size 3 1 v' xs.length (xs.map (Value.int .i64))) (hi : i < vs.length) : RO B (vs.set i v') (G.set i xs) w' := by
  have h2 := h.below hb
  have hlt : ∀ (j : Nat) (u : Value), vs[j]? = some u → ∀ b, u.ownBlock = some b → v'.ownBlock ≠ some b := fun j u hu b hub e => by
    obtain ⟨g, _, hh⟩ := h.at hu
    have h3 := (hh.lt b hub).2
    have h4 := (ho.lt b e).1
    omega
  refine ⟨by rw [List.length_set, List.length_set, h.len], fun j u gj hu hgj => ?_, fun a b u t q hab hu ht hq => ?_⟩
  · by_cases hj : j = i
    · subst hj
      rw [List.getElem?_set_self hi] at hu
      rw [List.getElem?_set_self (by rw [← h.len]; exact hi)] at hgj
      obtain rfl := Option.some.inj hu
      obtain rfl := Option.some.inj hgj
      exact own_base ho hs
    · rw [List.getElem?_set_ne (fun e => hj e.symm)] at hu hgj
      exact h2.own j u gj hu hgj
  · by_cases ha : a = i
    · subst ha
      rw [List.getElem?_set_self hi] at hu
      obtain rfl := Option.some.inj hu
      rw [List.getElem?_set_ne hab] at ht
      intro e
      exact hlt b t ht q e hq
    · rw [List.getElem?_set_ne (fun e => ha e.symm)] at hu
      by_cases hb2 : b = i
      · subst hb2
        rw [List.getElem?_set_self hi] at ht
        obtain rfl := Option.some.inj ht
        exact hlt a u hu q hq
      · rw [List.getElem?_set_ne (fun e => hb2 e.symm)] at ht
        exact h.apart a b u t q hab hu ht hq
/-- What the document's loop that groups holds in memory. -/
structure GD (B : Nat) (vo : Value) (vs : List Value) (G : List (List Int)) (w0 w : World) : Prop where
  o : w.ownsRow B 30 1 vo vs.length vs
  r : RO B vs G w
  b : Below B w0 w
  s : B ≤ w.heap.size
section
variable {B : Nat} {vo : Value} {vs : List Value} {G : List (List Int)} {w0 w w' : World}
theorem GD.below (h : GD B vo vs G w0 w) (hb : Below w.heap.size w w') : GD B vo vs G w0 w' :=
  ⟨own_kept h.o hb, h.r.below hb, h.b.trans (hb.mono h.s), Nat.le_trans h.s hb.size⟩
theorem GD.alloc (h : GD B vo vs G w0 w) (o : Obj) : GD B vo vs G w0 (w.alloc o) := h.below ((Below.refl _ _).alloc (Nat.le_refl _) o)
theorem GD.pushed {v' : Value} (h : GD B vo vs G w0 w) (hown : w'.ownsRow B 30 1 v' (vs.length + 1) (vs ++ [.slice none 0 0])) (hg : w.grownBy w' vo.ownBlock) : GD B v' (vs ++ [.slice none 0 0]) (G ++ [[]]) w0 w' := by
  have hk : ∀ q t, TyAt w q t → t ≠ 30 → some q ≠ vo.ownBlock := fun q t ht hne e => (ht.ne (own_ty h.o e.symm) hne) rfl
  exact ⟨by rw [List.length_append]; exact hown, RO.push (h.r.grown hg fun q e ht => hk q _ ht (by decide) e.symm), own_below h.o h.b h.s hg, Nat.le_trans h.s hg.size⟩
theorem GD.cell {v : Value} {i q c L : Nat} (h : GD B (.slice (some ⟨q, 0, none⟩) L c) vs G w0 w) (hL : vs.length = L) (hv : vs[i]? = some v) : w.cell? ⟨q, i, none⟩ = some v ∧ w.frozen? ⟨q, i, none⟩ = false ∧ q < w.heap.size := by
  subst hL
  exact ⟨(h.o.cellAt i (by have := (List.getElem?_eq_some_iff.1 hv).1; omega)).trans hv, h.o.frozenAt i, (h.o.lt q rfl).2⟩
theorem GD.put {v' : Value} {xs : List Int} {i q c L : Nat} (h : GD B (.slice (some ⟨q, 0, none⟩) L c) vs G w0 w) (hL : vs.length = L) (hi : i < L) (hb : Below w.heap.size w w')
    (ho : w'.ownsRow w.heap.size 3 1 v' xs.length (xs.map (Value.int .i64))) : GD B (.slice (some ⟨q, 0, none⟩) L c) (vs.set i v') (G.set i xs) w0 (w'.setCell ⟨q, i, none⟩ v') := by
  subst hL
  have hO : w'.ownsRow B 30 1 (.slice (some ⟨q, 0, none⟩) vs.length c) vs.length vs := own_kept h.o hb
  have hS := hO.stored i v'
  have hq : TyAt w' q 30 := own_ty hO rfl
  have hb6 := h.b.trans (hb.mono h.s)
  have hs6 := Nat.le_trans h.s hb.size
  refine ⟨by rw [List.length_set]; exact hS.1, (h.r.repl hb h.s ho hi).grown hS.2 (fun z e ht => ?_), hb6.grown hS.2 hs6 (fun z e => by cases e; exact (hO.lt q rfl).1), Nat.le_trans hs6 hS.2.size⟩
  cases e
  exact (hq.ne ht (by decide)) rfl
end
theorem icl_flat (g : List Int) : g.flatMap icl = g.map (Value.int .i64) := by unfold icl; simp [List.flatMap_singleton', ← List.map_eq_flatMap]
theorem own_isl {w : World} {B : Nat} {v : Value} {g : List Int} (h : w.ownsRow B 3 1 v g.length (g.map (Value.int .i64))) : IsL icl 1 g v w :=
  IsL.of_own (K := 1) (fun _ => rfl) (Nat.le_refl 1) (by rw [icl_flat]; exact h)
theorem isl_news {w : World} {a : Option Addr} {g : List Int} (h : RowsAt icl 1 w a g) : ∀ q, a = some q → ∀ j u, (g.map (Value.int .i64))[j]? = some u → w.cell? (q.add j) = some u := by
  rw [← icl_flat]
  exact RowsAt.news (enc := icl) (K := 1) (fun _ => rfl) h
set_option maxRecDepth 100000 in
set_option maxHeartbeats 16000000 in
theorem rgroups_any (a : Option Addr) (ka : Nat) (l : List Pd) (w : World) (hF : PodLs w a l) (hl : l.length ≤ 60) (hI : ∀ x ∈ l, PodAt w x) (hL : ∀ x ∈ l, lightP x = true) :
    Calls Tryz.prog 8 #[.slice a l.length ka] w (GivesK w (grpK l)) := by
  have HFd := Lib.hid (fun nm V (hV : Below w.heap.size w V) => rfind_any a ka l nm V (hF.mono hV) (by omega))
  have HRt := Lib.hid (fun p (hp : p ∈ l) V (hV : Below w.heap.size w V) => show Calls Tryz.prog 20 #[.agg #[.string (p).nm, .int .i64 (p).n0, .int .i64 (p).n1, .int .i64 (p).n2, .int .i64 (p).n3, .int .i64 (p).n4, .slice (p).la (p).labs.length (p).lk, .slice (p).sa (p).sels.length (p).sk, .slice (p).ta (p).trms.length (p).tk, .slice (p).ba (p).bers.length (p).bk, .slice (p).pa (p).prts.length (p).pk, .slice (p).aa (p).aprs.length (p).ak, .bool (p).wd, .slice (p).da (p).spds.length (p).dk, .int .i64 (p).sw, .int .i64 (p).rk, .string (p).ow, .bool (p).dm, .bool (p).pn, .bool (p).lc]] V fun e w' => e = .returned (.bool (rightP p)) ∧ Below V.heap.size V w' from refrightp_any p V ((hI p hp).mono hV) (hL p hp))
  have HKy := Lib.hid (fun p (hp : p ∈ l) V (hV : Below w.heap.size w V) => show Calls Tryz.prog 11 #[.agg #[.string (p).nm, .int .i64 (p).n0, .int .i64 (p).n1, .int .i64 (p).n2, .int .i64 (p).n3, .int .i64 (p).n4, .slice (p).la (p).labs.length (p).lk, .slice (p).sa (p).sels.length (p).sk, .slice (p).ta (p).trms.length (p).tk, .slice (p).ba (p).bers.length (p).bk, .slice (p).pa (p).prts.length (p).pk, .slice (p).aa (p).aprs.length (p).ak, .bool (p).wd, .slice (p).da (p).spds.length (p).dk, .int .i64 (p).sw, .int .i64 (p).rk, .string (p).ow, .bool (p).dm, .bool (p).pn, .bool (p).lc]] V fun e w' => e = .returned (.string (keyP p)) ∧ Below V.heap.size V w' from rkey_any p V ((hI p hp).mono hV) (hL p hp))
  obtain ⟨n, hn⟩ : ∃ n, l.length = n := ⟨_, rfl⟩
  obtain ⟨K, hK9⟩ : ∃ K, l.map keyP = K := ⟨_, rfl⟩
  obtain ⟨N, hN9⟩ : ∃ N, l.map Pd.nm = N := ⟨_, rfl⟩
  have HN := Lib.hid hn
  have HKn := Lib.hid (show K.length = n by rw [← hK9, List.length_map, hn])
  have HNn := Lib.hid (show N.length = n by rw [← hN9, List.length_map, hn])
  have HKk := Lib.hid (fun (k : Nat) (p : Pd) (h : l[k]? = some p) => show K[k]? = some (keyP p) by rw [← hK9, List.getElem?_map, h]; rfl)
  have HNk := Lib.hid (fun (k : Nat) (p : Pd) (h : l[k]? = some p) => show N[k]? = some p.nm by rw [← hN9, List.getElem?_map, h]; rfl)
  have HF := Lib.hid hF
  obtain ⟨A, hA⟩ : ∃ A, l.all rightP = A := ⟨_, rfl⟩
  have HA := Lib.hid (show (l.drop 0).all rightP = A from hA)
  obtain ⟨R, hR⟩ : ∃ R, grpK l = R := ⟨_, rfl⟩
  have HR := Lib.hid (show R = if A = true then (if twK N = true then ([], 15) else (grS K 0 [] [], 0)) else ([], 12) by rw [← hR, ← hA, ← hK9, ← hN9]; rfl)
  have HTn := Lib.hid (twK_no (N := N))
  rw [hN9] at HFd
  rw [hn] at hl HFd ⊢
  rw [hR]
  obtain ⟨tw, htw⟩ : ∃ b, twK N = b := ⟨_, rfl⟩
  rw [htw] at HR HTn
  clear hF hI hL hn hK9 hN9 hA hR htw
  go_enter Tryz.func8, Tryz.ntmps8
  go_wp2
  go_loopw [4] (fun vi wr => ∃ k : Nat, k ≤ n ∧ vi = .int .i64 k ∧ (l.drop k).all rightP = A ∧ Below w.heap.size w wr) (fun vi _ => n - (intOf vi).toNat)
  case atStart => exact ⟨0, Nat.zero_le _, rfl, HA.out, Below.refl _ _⟩
  case round =>
    clear HA
    obtain ⟨k, hk, rfl, hE, hB⟩ := hrel
    have hbz := hB.size
    have HB := Lib.hid hB
    by_cases hlt : k < n
    · obtain ⟨p, hp⟩ := mem_at (l := l) (k := k) (by rw [HN.out]; exact hlt)
      obtain ⟨b, o, rfl, hb, hc⟩ := (HF.out.mono hB) (by rw [HN.out]; omega)
      have HRq := Lib.hid (show wr.rangeAt b (o + k * 20) [.string (p).nm, .int .i64 (p).n0, .int .i64 (p).n1, .int .i64 (p).n2, .int .i64 (p).n3, .int .i64 (p).n4, .slice (p).la (p).labs.length (p).lk, .slice (p).sa (p).sels.length (p).sk, .slice (p).ta (p).trms.length (p).tk, .slice (p).ba (p).bers.length (p).bk, .slice (p).pa (p).prts.length (p).pk, .slice (p).aa (p).aprs.length (p).ak, .bool (p).wd, .slice (p).da (p).spds.length (p).dk, .int .i64 (p).sw, .int .i64 (p).rk, .string (p).ow, .bool (p).dm, .bool (p).pn, .bool (p).lc] from fun j v hj => by
        have hj20 : j < 20 := (List.getElem?_eq_some_iff.1 hj).1
        rw [hc k p hp j hj20]
        exact hj)
      have HC := Lib.hid (HRt.out p (List.mem_of_getElem? hp))
      have hnx := (all_at rightP hp).symm.trans hE
      obtain ⟨m, hm⟩ : ∃ m, rightP p = m := ⟨_, rfl⟩
      rw [hm] at HC hnx
      have HNx := Lib.hid hnx
      clear hc hp hB hE hnx hm
      cases m with
      | true =>
        have HNy := Lib.hid (show (l.drop (k + 1)).all rightP = A by have := HNx.out; rwa [Bool.true_and] at this)
        go_wp2_with (first
          | ((with_reducible refine at_load (ty := 38) ?_); refine load_cells rfl 38 (.tmp 18) rfl b (o + k * 20) rfl [.string (p).nm, .int .i64 (p).n0, .int .i64 (p).n1, .int .i64 (p).n2, .int .i64 (p).n3, .int .i64 (p).n4, .slice (p).la (p).labs.length (p).lk, .slice (p).sa (p).sels.length (p).sk, .slice (p).ta (p).trms.length (p).tk, .slice (p).ba (p).bers.length (p).bk, .slice (p).pa (p).prts.length (p).pk, .slice (p).aa (p).aprs.length (p).ak, .bool (p).wd, .slice (p).da (p).spds.length (p).dk, .int .i64 (p).sw, .int .i64 (p).rk, .string (p).ow, .bool (p).dm, .bool (p).pn, .bool (p).lc] _ Tryz.underlying38 rfl (by kernel_rfl) HRq.out ?_)
          | (go_at_call 20; (with_reducible refine (HC.out _ HB.out).mono ?_); rintro e w9 ⟨rfl, hb9⟩; have HB9 := Lib.hid (HB.out.trans (hb9.mono hbz)); clear hb9))
        go_roundw
        case rel => exact ⟨k + 1, by omega, by go_num, HNy.out, HB9.out⟩
        case measure => simp [intOf]; omega
      | false =>
        have HRf := Lib.hid (show R = ([], 12) by rw [HR.out, if_neg (by have := HNx.out; rw [Bool.false_and] at this; rw [← this]; exact Bool.false_ne_true)])
        go_wp2_with (first
          | ((with_reducible refine at_load (ty := 38) ?_); refine load_cells rfl 38 (.tmp 18) rfl b (o + k * 20) rfl [.string (p).nm, .int .i64 (p).n0, .int .i64 (p).n1, .int .i64 (p).n2, .int .i64 (p).n3, .int .i64 (p).n4, .slice (p).la (p).labs.length (p).lk, .slice (p).sa (p).sels.length (p).sk, .slice (p).ta (p).trms.length (p).tk, .slice (p).ba (p).bers.length (p).bk, .slice (p).pa (p).prts.length (p).pk, .slice (p).aa (p).aprs.length (p).ak, .bool (p).wd, .slice (p).da (p).spds.length (p).dk, .int .i64 (p).sw, .int .i64 (p).rk, .string (p).ow, .bool (p).dm, .bool (p).pn, .bool (p).lc] _ Tryz.underlying38 rfl (by kernel_rfl) HRq.out ?_)
          | (go_at_call 20; (with_reducible refine (HC.out _ HB.out).mono ?_); rintro e w9 ⟨rfl, hb9⟩; have HB9 := Lib.hid (HB.out.trans (hb9.mono hbz)); clear hb9))
        refine bodyPost_ret (v := .tuple #[.slice none 0 0, .int .i64 12]) (by simp [results, Tryz.results8, go_sem]) rfl ⟨⟨none, 0, by rw [HRf.out]; rfl, by rw [HRf.out]; exact GrL.nil _⟩, HB9.out⟩
    · obtain rfl : k = n := by omega
      have HRa := Lib.hid (show R = if tw = true then ([], 15) else (grS K 0 [] [], 0) by
        rw [HR.out, if_pos (by rw [← hE, List.drop_of_length_le (by rw [HN.out]; exact Nat.le_refl _)]; rfl)])
      clear hE hB hlt HR
      go_wp2
      go_loopw [5] (fun vi wq => ∃ j : Nat, j ≤ k ∧ vi = .int .i64 j ∧ (∀ (i : Nat) (y : ByteArray), i < j → N[i]? = some y → findN N y 0 = (i : Int)) ∧ Below w.heap.size w wq) (fun vi _ => k - (intOf vi).toNat)
      case atStart => exact ⟨0, Nat.zero_le _, rfl, fun i y hi => absurd hi (Nat.not_lt_zero _), HB.out⟩
      case round =>
        obtain ⟨j, hj, rfl, hE, hB⟩ := hrel
        clear HB hbz
        have hbz := hB.size
        have HB := Lib.hid hB
        have HE := Lib.hid hE
        clear hE
        by_cases hlt : j < k
        · obtain ⟨p, hp⟩ := mem_at (l := l) (k := j) (by rw [HN.out]; exact hlt)
          obtain ⟨b, o, rfl, hb, hc⟩ := (HF.out.mono hB) (by rw [HN.out]; omega)
          have c0 : wr.cell? ⟨b, o + j * 20, none⟩ = some (.string p.nm) := by
            have h9 := hc j p hp 0 (by decide)
            rw [Nat.add_zero] at h9
            exact h9
          have HC := Lib.hid (HFd.out p.nm)
          have HNm := Lib.hid (HNk.out j p hp)
          obtain ⟨y, hy⟩ : ∃ y, p.nm = y := ⟨_, rfl⟩
          rw [hy] at c0 HC HNm
          obtain ⟨f, hf⟩ : ∃ f, findN N y 0 = f := ⟨_, rfl⟩
          rw [hf] at HC
          have HFf := Lib.hid hf
          clear hc hp hB hy hf
          by_cases he : f = (j : Int)
          · have q1 : (f == (j : Int)) = true := by rw [he]; simp
            have HNx := Lib.hid (show ∀ (i : Nat) (y : ByteArray), i < j + 1 → N[i]? = some y → findN N y 0 = (i : Int) from fun i z hi hz => by
              by_cases hij : i = j
              · subst hij
                rw [HNm.out] at hz
                rw [← Option.some.inj hz, HFf.out, he]
              · exact HE.out i z (by omega) hz)
            subst he
            go_wp2_with (go_at_call 15; (with_reducible refine (HC.out _ HB.out).mono ?_); rintro e w9 ⟨rfl, hb9⟩; have HB9 := Lib.hid (HB.out.trans (hb9.mono hbz)); clear hb9)
            go_roundw
            case rel => exact ⟨j + 1, by omega, by go_num, HNx.out, HB9.out⟩
            case measure => simp [intOf]; omega
          · have q1 : (f == (j : Int)) = false := by simpa using he
            have q2 : (f = (j : Int)) = False := eq_false he
            have HRf := Lib.hid (show R = ([], 15) by
              rw [HRa.out, if_pos]
              cases tw with
              | true => rfl
              | false => exact absurd (HFf.out.symm.trans (nodup_find.1 (HTn.out.1 rfl) j y HNm.out)) he)
            clear he
            go_wp2_with (go_at_call 15; (with_reducible refine (HC.out _ HB.out).mono ?_); rintro e w9 ⟨rfl, hb9⟩; have HB9 := Lib.hid (HB.out.trans (hb9.mono hbz)); clear hb9)
            refine bodyPost_ret (v := .tuple #[.slice none 0 0, .int .i64 15]) (by simp [results, Tryz.results8, go_sem]) rfl ⟨⟨none, 0, by rw [HRf.out]; rfl, by rw [HRf.out]; exact GrL.nil _⟩, HB9.out⟩
        · obtain rfl : k = j := by omega
          have HRb := Lib.hid (show (grS (K.drop 0) 0 [] [], 0) = R by
            rw [HRa.out, if_neg, List.drop_zero]
            rw [Bool.not_eq_true]
            refine HTn.out.2 (nodup_find.2 fun i y hy => HE.out i y ?_ hy)
            have := (List.getElem?_eq_some_iff.1 hy).1
            rw [HNn.out] at this
            exact this)
          clear hB hlt HE HRa
          obtain ⟨i0, hi, hz0, hz1, hz2⟩ := info_parts Tryz.info3
          have Hi := Lib.hid hi
          have Hz0 := Lib.hid hz0
          have Hz1 := Lib.hid hz1
          have Hz2 := Lib.hid hz2
          obtain ⟨j0, kj, jz0, jz1, jz2⟩ := info_parts Tryz.info30
          have Hj := Lib.hid kj
          have Jz0 := Lib.hid jz0
          have Jz1 := Lib.hid jz1
          have Jz2 := Lib.hid jz2
          have HG0 := Lib.hid (show GD w.heap.size (.slice none 0 0) [] [] w wr from ⟨World.ownsRow_nil _ _ _ _, RO.nil _ _, HB.out, HB.out.size⟩)
          clear hi hz0 hz1 hz2 kj jz0 jz1 jz2
          go_wp2
          go_loopw [6, 7] (fun vo vi wr => ∃ (j : Nat) (D : List ByteArray) (G : List (List Int)) (vs : List Value), j ≤ k ∧ vi = .int .i64 j ∧ (grS (K.drop j) j D G, 0) = R ∧ GInv K j D G ∧ D.length ≤ j ∧ (∀ g ∈ G, g.length ≤ j) ∧ GD w.heap.size vo vs G w wr) (fun _ vi _ => k - (intOf vi).toNat)
          case atStart => exact ⟨0, [], [], [], Nat.zero_le _, rfl, HRb.out, GInv.nil _, Nat.le_refl _, (fun g hg => by simp at hg), HG0.out⟩
          case round =>
            obtain ⟨V, hV0⟩ : ∃ V, V = wr := ⟨_, rfl⟩
            subst hV0
            clear HG0 HRb HB hbz
            obtain ⟨j, D, G, vs, hj, rfl, hE, hV, hDj, hGl, hS⟩ := hrel
            obtain ⟨ao, ko, rfl⟩ := own_sl hS.o
            obtain ⟨L, hLn⟩ : ∃ L, vs.length = L := ⟨_, rfl⟩
            have hDL : D.length = L := by rw [← hLn, hS.r.len]; exact hV.len
            have hGL : G.length = L := by rw [← hLn]; exact hS.r.len.symm
            rw [hLn] at hS ⊢
            by_cases hlt : j < k
            · obtain ⟨p, hp⟩ := mem_at (l := l) (k := j) (by rw [HN.out]; exact hlt)
              obtain ⟨b, o, rfl, hb, hc⟩ := (HF.out.mono hS.b) (by rw [HN.out]; omega)
              have HC9 := Lib.hid (fun (i : Nat) (p : Pd) (h : l[i]? = some p) => show V.rangeAt b (o + i * 20) [.string (p).nm, .int .i64 (p).n0, .int .i64 (p).n1, .int .i64 (p).n2, .int .i64 (p).n3, .int .i64 (p).n4, .slice (p).la (p).labs.length (p).lk, .slice (p).sa (p).sels.length (p).sk, .slice (p).ta (p).trms.length (p).tk, .slice (p).ba (p).bers.length (p).bk, .slice (p).pa (p).prts.length (p).pk, .slice (p).aa (p).aprs.length (p).ak, .bool (p).wd, .slice (p).da (p).spds.length (p).dk, .int .i64 (p).sw, .int .i64 (p).rk, .string (p).ow, .bool (p).dm, .bool (p).pn, .bool (p).lc] from fun j v hj => by
                have hj20 : j < 20 := (List.getElem?_eq_some_iff.1 hj).1
                rw [hc i p h j hj20]
                exact hj)
              have HRq := Lib.hid (HC9.out j p hp)
              have HKp := Lib.hid (HKy.out p (List.mem_of_getElem? hp))
              have hKj := HKk.out j p hp
              obtain ⟨y, hy⟩ : ∃ y, keyP p = y := ⟨_, rfl⟩
              rw [hy] at HKp hKj
              have hst0 := hV.step hKj
              have hnx := (congrArg (fun z => (z, (0 : Int))) (grS_at hKj D G)).symm.trans hE
              have HSt := Lib.hid hst0
              have HNx := Lib.hid hnx
              have HV := Lib.hid hV
              have HS := Lib.hid hS
              have HLn := Lib.hid hLn
              have HDL := Lib.hid hDL
              have HGL := Lib.hid hGL
              have HGl := Lib.hid hGl
              have HDj := Lib.hid hDj
              have hLj : L ≤ 60 := by omega
              clear hc hp hE hV hS hLn hDL hGL hGl hDj hy hKj hst0 hnx
              go_wp2
              go_loopw [8] (fun vk wq => ∃ q : Nat, q ≤ L ∧ vk = .int .i64 q ∧ (∀ i, i < q → D[i]? ≠ some y) ∧ Below V.heap.size V wq) (fun vk _ => L - (intOf vk).toNat)
              case atStart => exact ⟨0, Nat.zero_le _, rfl, fun i hi => absurd hi (Nat.not_lt_zero _), Below.refl _ _⟩
              case round =>
                obtain ⟨q, hq, rfl, hE, hB⟩ := hrel
                have HE := Lib.hid hE
                have HB := Lib.hid hB
                have hVz := hB.size
                have HSr := Lib.hid (HS.out.below hB)
                clear hE hB
                obtain ⟨W, hWw⟩ : ∃ V, V = wr := ⟨_, rfl⟩
                subst hWw
                by_cases hqL : q < L
                · obtain ⟨v, hv⟩ := mem_at (l := vs) (k := q) (by rw [HLn.out]; exact hqL)
                  obtain ⟨g, hg, hown⟩ := HSr.out.r.at hv
                  obtain ⟨d, hd⟩ := mem_at (l := D) (k := q) (by rw [HDL.out]; exact hqL)
                  obtain ⟨av, cv, rfl, hnil, hrw⟩ := own_isl hown
                  obtain ⟨x, t, rfl⟩ : ∃ x t, g = x :: t := List.exists_cons_of_ne_nil (HV.out.ne g (List.mem_of_getElem? hg))
                  obtain ⟨nn, rfl, hnn, hKn⟩ := HV.out.mem q _ d hg hd x List.mem_cons_self
                  obtain ⟨p2, hp2⟩ := mem_at (l := l) (k := nn) (by rw [HN.out]; omega)
                  have hKe := HKk.out nn p2 hp2
                  rw [hKn] at hKe
                  have HRn := Lib.hid (HC9.out nn p2 hp2)
                  have HKn := Lib.hid (HKy.out p2 (List.mem_of_getElem? hp2))
                  rw [← Option.some.inj hKe] at HKn
                  obtain ⟨bq, rfl⟩ := own_some HSr.out.o (by rw [HLn.out]; omega)
                  obtain ⟨bv, rfl⟩ := own_some hown (by simp)
                  obtain ⟨c1, _, l1⟩ := HSr.out.cell HLn.out hv
                  have d0 : W.cell? ⟨bv, 0, none⟩ = some (.int .i64 (nn : Nat)) := icl_at (k := 0) (fun i x hx r hr => by
                    obtain ⟨b7, o7, e7, _, h7⟩ := hrw (by simp)
                    injection e7 with e7
                    injection e7 with e7 e8
                    subst e7 e8
                    exact h7 i x hx r hr) rfl
                  have l2 : bv < W.heap.size := (hown.lt bv rfl).2
                  have lb : b < W.heap.size := Nat.lt_of_lt_of_le hb hVz
                  obtain ⟨g, hgg⟩ : ∃ g, g = (nn : Int) :: t := ⟨_, rfl⟩
                  rw [← hgg] at hg hnil hrw c1 hv
                  obtain ⟨L2, hL2⟩ : ∃ L2, g.length = L2 := ⟨_, rfl⟩
                  have hL2p : 0 < L2 := by rw [← hL2, hgg]; simp
                  have hL2k : L2 ≤ j := by rw [← hL2]; exact HGl.out g (List.mem_of_getElem? hg)
                  rw [hL2] at hnil c1 hv
                  have HV9 := Lib.hid hv
                  have HG9 := Lib.hid hg
                  have HL2 := Lib.hid hL2
                  have HNil := Lib.hid hnil
                  have HRw := Lib.hid hrw
                  have HD9 := Lib.hid hd
                  have hnk : nn < k := by omega
                  clear hKe hKn hp2 hv hg hd hnil hrw hgg hown hL2
                  have q0 : decide ((q : Int) < (L : Int)) = true := decide_eq_true (by omega)
                  by_cases he : d = y
                  · have q1 := kstr_yes he
                    have hpo : posB D y = q := Nat.le_antisymm (posB_le_at (he ▸ HD9.out)) (posB_lt_of HE.out (by rw [HDL.out]; omega))
                    have hst : stepG D G y j = (D, G.set q (g ++ [(j : Int)])) := by
                      unfold stepG
                      rw [hpo, if_pos (by rw [HDL.out]; exact hqL), List.getD_eq_getElem?_getD, HG9.out]
                      rfl
                    have HSx := Lib.hid (show GInv K (j + 1) D (G.set q (g ++ [(j : Int)])) by have h9 := HSt.out; rw [hst] at h9; exact h9)
                    have HGl2 := Lib.hid HGl.out
                    have HDj2 := Lib.hid (Nat.le_succ_of_le HDj.out)
                    have HNy := Lib.hid (show (grS (K.drop (j + 1)) (j + 1) D (G.set q (g ++ [(j : Int)])), (0 : Int)) = R by have h9 := HNx.out; rw [hst] at h9; exact h9)
                    clear he hpo hst
                    go_wp2
                    have hcH := held_cell
                    refine region_rel (by kernel_rfl) (by kernel_rfl) ?_
                    repeat
                      ((with_reducible refine relStep (fun K hK => ?_))
                       (have HK := Lib.hid hK)
                       clear hK
                       (apply relInl
                        · intro r n hf
                          have Hf := Lib.hid hf
                          clear hf
                          (first
                            | (((with_reducible refine at_rel (ty := 38) ?_); first | refine rel_load rfl b (o + nn * 20) rfl [.string (p2).nm, .int .i64 (p2).n0, .int .i64 (p2).n1, .int .i64 (p2).n2, .int .i64 (p2).n3, .int .i64 (p2).n4, .slice (p2).la (p2).labs.length (p2).lk, .slice (p2).sa (p2).sels.length (p2).sk, .slice (p2).ta (p2).trms.length (p2).tk, .slice (p2).ba (p2).bers.length (p2).bk, .slice (p2).pa (p2).prts.length (p2).pk, .slice (p2).aa (p2).aprs.length (p2).ak, .bool (p2).wd, .slice (p2).da (p2).spds.length (p2).dk, .int .i64 (p2).sw, .int .i64 (p2).rk, .string (p2).ow, .bool (p2).dm, .bool (p2).pn, .bool (p2).lc] _ Tryz.underlying38 rfl (by kernel_rfl) (rangeAt_mono (rangeAt_mono HRn.out hb HB.out) lb n.below) rfl | refine rel_load rfl b (o + j * 20) rfl [.string (p).nm, .int .i64 (p).n0, .int .i64 (p).n1, .int .i64 (p).n2, .int .i64 (p).n3, .int .i64 (p).n4, .slice (p).la (p).labs.length (p).lk, .slice (p).sa (p).sels.length (p).sk, .slice (p).ta (p).trms.length (p).tk, .slice (p).ba (p).bers.length (p).bk, .slice (p).pa (p).prts.length (p).pk, .slice (p).aa (p).aprs.length (p).ak, .bool (p).wd, .slice (p).da (p).spds.length (p).dk, .int .i64 (p).sw, .int .i64 (p).rk, .string (p).ow, .bool (p).dm, .bool (p).pn, .bool (p).lc] _ Tryz.underlying38 rfl (by kernel_rfl) (rangeAt_mono (rangeAt_mono HRq.out hb HB.out) lb n.below) rfl))
                            | (unfold relAt
                               go_simp
                               (first | (refine relUpon_val ?_ (Below.refl _ _); exact rfl) | exact rfl | (refine relUpon_enter ?_; (first | (go_at_call 11; (with_reducible refine (HKn.out _ (HS.out.b.trans ((HB.out.trans (n.below.mono hVz)).mono HS.out.s))).mono ?_); rintro e w9 ⟨rfl, hb⟩; exact ⟨⟨_, rfl, rfl⟩, hb⟩) | (go_at_call 11; (with_reducible refine (HKp.out _ (HS.out.b.trans ((HB.out.trans (n.below.mono hVz)).mono HS.out.s))).mono ?_); rintro e w9 ⟨rfl, hb⟩; exact ⟨⟨_, rfl, rfl⟩, hb⟩))))))
                        (simp only [Act.put, List.setIfInBounds_toArray, List.set_cons_zero, List.set_cons_succ])
                        (with_reducible refine HK.out _ _ ?_)
                        clear HK K))
                    refine relNil ?_
                    intro r9 n9 hx9
                    clear hcH
                    (try simp only [List.nil_append, List.cons_append, List.mem_cons, List.not_mem_nil, or_false, forall_eq_or_imp, forall_eq, false_implies, implies_true] at hx9)
                    obtain ⟨w9, hb9⟩ := n9
                    (try dsimp only)
                    obtain ⟨hc9, hf9⟩ := bcell hb9
                    have hz9 := hb9.size
                    (try simp at hz9)
                    have HS9 := Lib.hid (HSr.out.below hb9)
                    have HRw9 := Lib.hid (HRw.out.mono hb9)
                    clear hb9 hc9 hf9 HRw HSr HRn HKn HKp HRq
                    obtain ⟨av, hav⟩ : ∃ x : Option Addr, x = some ⟨bv, 0, none⟩ := ⟨_, rfl⟩
                    rw [← hav] at HV9 HRw9 HNil
                    clear hav d0 l2 c1
                    go_upto_region 18 with (fail)
                    obtain ⟨c1, f1, l1⟩ := HS9.out.cell HLn.out HV9.out
                    go_upto_region 22 with (at_builtin; refine wpList_append_src rfl (.tmp 74) (.tmp 78) 30 rfl (w9).heap.size 3 i0 _ 1 8 Tryz.underlying30 Hi.out Hz0.out Hz1.out Hz2.out rfl (by decide) _ 0 [] rfl (World.ownsRow_nil _ _ _ _) av L2 cv (g.map (Value.int .i64)) rfl (by rw [List.length_map, Nat.mul_one]; exact HL2.out) (isl_news HRw9.out) HNil.out (ints_oneCell .i64 g) (by unfold maxLen; omega) (by omega) (Nat.le_refl _) ?_; intro v1 w1 hown1 hgrow1; rw [Nat.zero_add, List.nil_append] at hown1; obtain ⟨a1, k1, rfl⟩ := own_sl hown1; have HB1 := Lib.hid (own_below (World.ownsRow_nil (w9) (w9).heap.size 3 1) (Below.refl _ _) (Nat.le_refl _) hgrow1); have HO1 := Lib.hid hown1; clear hown1 hgrow1)
                    clear c1 f1 l1
                    go_wp2_with (at_builtin; refine wpList_append_src rfl (.tmp 82) (.tmp 84) 30 rfl (w9).heap.size 3 i0 _ 1 8 Tryz.underlying30 Hi.out Hz0.out Hz1.out Hz2.out rfl (by decide) _ L2 (g.map (Value.int .i64)) rfl (HO1.out.alloc _) (some ⟨w1.heap.size, 0, none⟩) 1 1 [.int .i64 (j : Nat)] rfl rfl (fun q e => by injection e with e; rw [← e]; exact news_at _ _ _) (fun e => by cases e) (ints_oneCell .i64 [((j : Nat) : Int)]) (by unfold maxLen; omega) (by omega) (le_alloc HB1.out.size _) ?_; intro v2 w2 hown2 hgrow2; obtain ⟨a2, k2, rfl⟩ := own_sl hown2; have hb2 := own_below (HO1.out.alloc _) (HB1.out.alloc HB1.out.size _) (le_alloc HB1.out.size _) hgrow2; obtain ⟨d1, d2, d3⟩ := (HS9.out.below hb2).cell HLn.out HV9.out; have HS6 := Lib.hid (HS9.out.put (v' := .slice a2 (L2 + 1) k2) (i := q) HLn.out hqL hb2 (xs := g ++ [(j : Int)]) (by rw [List.length_append, List.map_append]; show World.ownsRow _ _ _ _ _ (g.length + 1) _; rw [HL2.out]; exact hown2)); clear hown2 hgrow2 hb2)
                    go_roundw
                    case rel => exact ⟨j + 1, D, (G).set q (g ++ [(j : Int)]), (vs).set q (.slice a2 (L2 + 1) k2), by omega, by go_num, HNy.out, HSx.out, HDj2.out, len_all HGl2.out q g _ HG9.out, (by first | exact HS6.out | (rw [← hLq]; exact HS6.out))⟩
                    case measure => simp [intOf]; omega
                  · have q1 := kstr_no he
                    have HEx := Lib.hid (show ∀ i, i < q + 1 → D[i]? ≠ some y from fun i hi => by
                      by_cases hiq : i = q
                      · subst hiq
                        rw [HD9.out]
                        exact fun h => he (Option.some.inj h)
                      · exact HE.out i (by omega))
                    clear he
                    go_wp2
                    have hcH := held_cell
                    refine region_rel (by kernel_rfl) (by kernel_rfl) ?_
                    repeat
                      ((with_reducible refine relStep (fun K hK => ?_))
                       (have HK := Lib.hid hK)
                       clear hK
                       (apply relInl
                        · intro r n hf
                          have Hf := Lib.hid hf
                          clear hf
                          (first
                            | (((with_reducible refine at_rel (ty := 38) ?_); first | refine rel_load rfl b (o + nn * 20) rfl [.string (p2).nm, .int .i64 (p2).n0, .int .i64 (p2).n1, .int .i64 (p2).n2, .int .i64 (p2).n3, .int .i64 (p2).n4, .slice (p2).la (p2).labs.length (p2).lk, .slice (p2).sa (p2).sels.length (p2).sk, .slice (p2).ta (p2).trms.length (p2).tk, .slice (p2).ba (p2).bers.length (p2).bk, .slice (p2).pa (p2).prts.length (p2).pk, .slice (p2).aa (p2).aprs.length (p2).ak, .bool (p2).wd, .slice (p2).da (p2).spds.length (p2).dk, .int .i64 (p2).sw, .int .i64 (p2).rk, .string (p2).ow, .bool (p2).dm, .bool (p2).pn, .bool (p2).lc] _ Tryz.underlying38 rfl (by kernel_rfl) (rangeAt_mono (rangeAt_mono HRn.out hb HB.out) lb n.below) rfl | refine rel_load rfl b (o + j * 20) rfl [.string (p).nm, .int .i64 (p).n0, .int .i64 (p).n1, .int .i64 (p).n2, .int .i64 (p).n3, .int .i64 (p).n4, .slice (p).la (p).labs.length (p).lk, .slice (p).sa (p).sels.length (p).sk, .slice (p).ta (p).trms.length (p).tk, .slice (p).ba (p).bers.length (p).bk, .slice (p).pa (p).prts.length (p).pk, .slice (p).aa (p).aprs.length (p).ak, .bool (p).wd, .slice (p).da (p).spds.length (p).dk, .int .i64 (p).sw, .int .i64 (p).rk, .string (p).ow, .bool (p).dm, .bool (p).pn, .bool (p).lc] _ Tryz.underlying38 rfl (by kernel_rfl) (rangeAt_mono (rangeAt_mono HRq.out hb HB.out) lb n.below) rfl))
                            | (unfold relAt
                               go_simp
                               (first | (refine relUpon_val ?_ (Below.refl _ _); exact rfl) | exact rfl | (refine relUpon_enter ?_; (first | (go_at_call 11; (with_reducible refine (HKn.out _ (HS.out.b.trans ((HB.out.trans (n.below.mono hVz)).mono HS.out.s))).mono ?_); rintro e w9 ⟨rfl, hb⟩; exact ⟨⟨_, rfl, rfl⟩, hb⟩) | (go_at_call 11; (with_reducible refine (HKp.out _ (HS.out.b.trans ((HB.out.trans (n.below.mono hVz)).mono HS.out.s))).mono ?_); rintro e w9 ⟨rfl, hb⟩; exact ⟨⟨_, rfl, rfl⟩, hb⟩))))))
                        (simp only [Act.put, List.setIfInBounds_toArray, List.set_cons_zero, List.set_cons_succ])
                        (with_reducible refine HK.out _ _ ?_)
                        clear HK K))
                    refine relNil ?_
                    intro r9 n9 hx9
                    clear hcH
                    (try simp only [List.nil_append, List.cons_append, List.mem_cons, List.not_mem_nil, or_false, forall_eq_or_imp, forall_eq, false_implies, implies_true] at hx9)
                    obtain ⟨w9, hb9⟩ := n9
                    (try dsimp only)
                    obtain ⟨hc9, hf9⟩ := bcell hb9
                    have hz9 := hb9.size
                    (try simp at hz9)
                    go_wp2
                    go_roundw
                    case rel => exact ⟨q + 1, by omega, by go_num, HEx.out, HB.out.trans (hb9.mono hVz)⟩
                    case measure => simp [intOf]; omega
                · obtain rfl : q = L := by omega
                  have q0 : decide ((q : Int) < (q : Int)) = false := by simp
                  have hpo : ¬ posB D y < D.length := by
                    have := posB_lt_of HE.out (by rw [HDL.out]; exact Nat.le_refl _)
                    rw [HDL.out]
                    omega
                  have hst : stepG D G y j = (D ++ [y], (G ++ [[]]).set q ([] ++ [(j : Int)])) := by
                    unfold stepG
                    rw [if_neg hpo, ← HGL.out]
                    simp
                  obtain ⟨av, L2, cv, g, hav, hL2, hcv, hgg⟩ : ∃ (av : Option Addr) (L2 cv : Nat) (g : List Int), av = none ∧ L2 = 0 ∧ cv = 0 ∧ g = [] := ⟨_, _, _, _, rfl, rfl, rfl, rfl⟩
                  have HSx := Lib.hid (show GInv K (j + 1) (D ++ [y]) ((G ++ [[]]).set q (g ++ [(j : Int)])) by have h9 := HSt.out; rw [hst] at h9; rw [hgg]; exact h9)
                  have HNy := Lib.hid (show (grS (K.drop (j + 1)) (j + 1) (D ++ [y]) ((G ++ [[]]).set q (g ++ [(j : Int)])), (0 : Int)) = R by have h9 := HNx.out; rw [hst] at h9; rw [hgg]; exact h9)
                  have HV9 := Lib.hid (show (vs ++ [Value.slice none 0 0])[q]? = some (.slice av L2 cv) by rw [hav, hL2, hcv, ← HLn.out]; simp)
                  have HG9 := Lib.hid (show (G ++ [[]])[q]? = some g by rw [hgg, ← HGL.out]; simp)
                  have HLp := Lib.hid (show (vs ++ [Value.slice none 0 0]).length = q + 1 by rw [List.length_append, HLn.out]; rfl)
                  have HNil := Lib.hid (show NilOk av L2 cv from fun _ => ⟨hL2, hcv⟩)
                  have HL2 := Lib.hid (show g.length = L2 by rw [hgg, hL2]; rfl)
                  have HGr := Lib.hid (fun V => show RowsAt icl 1 V av g by rw [hgg]; exact RowsAt.nil)
                  have hL2k : L2 ≤ j := by omega
                  have HGl2 := Lib.hid (show ∀ g ∈ G ++ [([] : List Int)], g.length ≤ j from fun g hg => by
                    rcases List.mem_append.1 hg with h | h
                    · exact HGl.out g h
                    · rw [List.mem_singleton.1 h]; exact Nat.zero_le _)
                  have HDj2 := Lib.hid (show (D ++ [y]).length ≤ j + 1 by have := HDj.out; rw [List.length_append]; show D.length + 1 ≤ j + 1; omega)
                  clear hpo hst hav hL2 hcv hgg HSt HNx HGl HDj HKp HRq
                  go_wp2
                  have hcH := held_cell
                  refine region_rel (by kernel_rfl) (by kernel_rfl) ?_
                  repeat
                    ((with_reducible refine relStep (fun K hK => ?_))
                     (have HK := Lib.hid hK)
                     clear hK
                     (apply relInl
                      · intro r n hf
                        have Hf := Lib.hid hf
                        clear hf
                        (first
                          | (fail)
                          | (unfold relAt
                             go_simp
                             (first | (refine relUpon_val ?_ (Below.refl _ _); exact rfl) | exact rfl | (refine relUpon_enter ?_; fail))))
                      (simp only [Act.put, List.setIfInBounds_toArray, List.set_cons_zero, List.set_cons_succ])
                      (with_reducible refine HK.out _ _ ?_)
                      clear HK K))
                  refine relNil ?_
                  intro r9 n9 hx9
                  clear hcH
                  (try simp only [List.nil_append, List.cons_append, List.mem_cons, List.not_mem_nil, or_false, forall_eq_or_imp, forall_eq, false_implies, implies_true] at hx9)
                  obtain ⟨w9, hb9⟩ := n9
                  (try dsimp only)
                  obtain ⟨hc9, hf9⟩ := bcell hb9
                  have hz9 := hb9.size
                  (try simp at hz9)
                  have HS8 := Lib.hid (HSr.out.below hb9)
                  clear hb9 hc9 hf9 HSr
                  have Hb8 := Lib.hid HS8.out.s
                  have HO8 := Lib.hid HS8.out.o
                  rw [HLn.out] at HO8
                  go_upto_region 18 with (fail)
                  go_upto_region 20 with (at_builtin; refine wpList_append_own_at _ rfl (.tmp 71) (.tmp 72) 25 rfl w.heap.size 30 j0 (.slice none 0 0) 1 24 Tryz.underlying25 Hj.out Jz0.out Jz1.out Jz2.out rfl (by decide) _ q vs rfl (HO8.out.alloc _) ⟨w9.heap.size, 0, none⟩ 1 1 [.slice none 0 0] rfl rfl (cell_one_new _ _ _) (fun u hu => by rw [List.mem_singleton.1 hu]; rfl) (by unfold maxLen; omega) (by omega) (le_alloc Hb8.out _) ?_; intro v3 w3 hown3 hgrow3 _ _; obtain ⟨a3, k3, rfl⟩ := own_sl hown3; obtain ⟨bq, rfl⟩ := own_some hown3 (by omega); have HS9 := Lib.hid ((HS8.out.alloc _).pushed (by rw [HLn.out]; exact hown3) hgrow3); clear hown3 hgrow3)
                  have HRw9 := Lib.hid (HGr.out w3)
                  clear HGr HO8 HS8
                  obtain ⟨L, hLq⟩ : ∃ L, L = q + 1 := ⟨_, rfl⟩
                  rw [← hLq] at HLp HS9 ⊢
                  have hqL : q < L := by omega
                  obtain ⟨c1, f1, l1⟩ := HS9.out.cell HLp.out HV9.out
                  go_upto_region 22 with (at_builtin; refine wpList_append_src rfl (.tmp 74) (.tmp 78) 30 rfl (w3).heap.size 3 i0 _ 1 8 Tryz.underlying30 Hi.out Hz0.out Hz1.out Hz2.out rfl (by decide) _ 0 [] rfl (World.ownsRow_nil _ _ _ _) av L2 cv (g.map (Value.int .i64)) rfl (by rw [List.length_map, Nat.mul_one]; exact HL2.out) (isl_news HRw9.out) HNil.out (ints_oneCell .i64 g) (by unfold maxLen; omega) (by omega) (Nat.le_refl _) ?_; intro v1 w1 hown1 hgrow1; rw [Nat.zero_add, List.nil_append] at hown1; obtain ⟨a1, k1, rfl⟩ := own_sl hown1; have HB1 := Lib.hid (own_below (World.ownsRow_nil (w3) (w3).heap.size 3 1) (Below.refl _ _) (Nat.le_refl _) hgrow1); have HO1 := Lib.hid hown1; clear hown1 hgrow1)
                  clear c1 f1 l1
                  go_wp2_with (at_builtin; refine wpList_append_src rfl (.tmp 82) (.tmp 84) 30 rfl (w3).heap.size 3 i0 _ 1 8 Tryz.underlying30 Hi.out Hz0.out Hz1.out Hz2.out rfl (by decide) _ L2 (g.map (Value.int .i64)) rfl (HO1.out.alloc _) (some ⟨w1.heap.size, 0, none⟩) 1 1 [.int .i64 (j : Nat)] rfl rfl (fun q e => by injection e with e; rw [← e]; exact news_at _ _ _) (fun e => by cases e) (ints_oneCell .i64 [((j : Nat) : Int)]) (by unfold maxLen; omega) (by omega) (le_alloc HB1.out.size _) ?_; intro v2 w2 hown2 hgrow2; obtain ⟨a2, k2, rfl⟩ := own_sl hown2; have hb2 := own_below (HO1.out.alloc _) (HB1.out.alloc HB1.out.size _) (le_alloc HB1.out.size _) hgrow2; obtain ⟨d1, d2, d3⟩ := (HS9.out.below hb2).cell HLp.out HV9.out; have HS6 := Lib.hid (HS9.out.put (v' := .slice a2 (L2 + 1) k2) (i := q) HLp.out hqL hb2 (xs := g ++ [(j : Int)]) (by rw [List.length_append, List.map_append]; show World.ownsRow _ _ _ _ _ (g.length + 1) _; rw [HL2.out]; exact hown2)); clear hown2 hgrow2 hb2)
                  go_roundw
                  case rel => exact ⟨j + 1, D ++ [y], (G ++ [([] : List Int)]).set q (g ++ [(j : Int)]), (vs ++ [Value.slice none 0 0]).set q (.slice a2 (L2 + 1) k2), by omega, by go_num, HNy.out, HSx.out, HDj2.out, len_all HGl2.out q g _ HG9.out, (by first | exact HS6.out | (rw [← hLq]; exact HS6.out))⟩
                  case measure => simp [intOf]; omega
            · obtain rfl : k = j := by omega
              rw [List.drop_of_length_le (by rw [HKn.out]; exact Nat.le_refl _)] at hE
              have HE := Lib.hid (show (G, (0 : Int)) = R from hE)
              have HGr := Lib.hid (hS.r.grL (by have h9 := hS.o; rw [hLn] at h9 ⊢; exact h9))
              have HLg := Lib.hid hGL
              have HBf := Lib.hid hS.b
              clear hE hS hV hLn hDL hGL
              go_wp2
              refine bodyPost_ret (v := .tuple #[.slice ao L ko, .int .i64 0]) (by simp [results, Tryz.results8, go_sem]) rfl ⟨⟨ao, ko, by rw [← HE.out, HLg.out], by rw [← HE.out]; exact HGr.out⟩, HBf.out⟩
end Go.Proofs.YtccplljbljpjpaaGreatDoor
