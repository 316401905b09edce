/-
  Parse: its loop.
-/
import Derived.Test.YtlndfognkkobaaaTrK
import Derived.BigQuiet
import Derived.Deep.Cut
namespace Go.Proofs.Ytlndfognkkobaaa
open Go.RowKit
set_option linter.unusedVariables false
set_option linter.unusedSimpArgs false

/-- What Parse hands back. -/
def ParsePost (base : Nat) (q : List Nd × Int × Int) (e : Ending) (w' : World) : Prop := ∃ v, e = .returned (.tuple #[v, .int .i64 q.2.1, .int .i64 q.2.2]) ∧ w'.ownsRow base 40 4 v q.1.length (q.1.flatMap ndrow)
structure PI (B : Nat) (w1 : World) (R : List Nd × Int × Int) (ts : List Tk) (k : Nat) (out : List Nd) (op : List Nat) (vl vo : Value) (w : World) : Prop where
  eq : prun (ts.drop k) out op = R
  ol : w.ownsRow B 40 4 vl out.length (out.flatMap ndrow)
  oo : w.ownsRow B 3 1 vo op.length (op.flatMap intE)
  f : Below B w1 w
  st : ∀ i ∈ op, i < out.length
  bo : out.length ≤ 4000
  bp : op.length ≤ 20
  bk : ∀ y ∈ out, 0 ≤ y.ki ∧ y.ki ≤ k
theorem drop_tk {l : List Tk} {k : Nat} {x : Tk} (h : l[k]? = some x) : l.drop k = x :: l.drop (k + 1) := by
  obtain ⟨h1, h2⟩ := List.getElem?_eq_some_iff.1 h
  rw [List.drop_eq_getElem_cons h1, h2]
theorem prun_cons (t : Tk) (ts : List Tk) (l : List Nd) (op : List Nat) : prun (t :: ts) l op = if (pstep t l op).2.2.1 = 0 then prun ts (pstep t l op).1 (pstep t l op).2.1 else ([], (pstep t l op).2.2.1, (pstep t l op).2.2.2) := rfl
theorem ints_take (l : List Nat) (n : Nat) : (l.flatMap intE).take n = (l.take n).flatMap intE := by
  have e : ∀ l : List Nat, l.flatMap intE = l.map (fun i : Nat => (.int .i64 (i : Int) : Value)) := fun l => by
    induction l with
    | nil => rfl
    | cons x l ih => show [_] ++ l.flatMap intE = _ :: l.map _; rw [ih]; rfl
  rw [e, e, List.map_take]
section
variable {B : Nat} {w1 w w' : World} {R : List Nd × Int × Int} {ts : List Tk} {k : Nat} {out : List Nd} {op : List Nat} {vl vo : Value}
theorem PI.below (h : PI B w1 R ts k out op vl vo w) (hb : Below w.heap.size w w') (hB : B ≤ w.heap.size) : PI B w1 R ts k out op vl vo w' :=
  ⟨h.eq, own_kept h.ol hb, own_kept h.oo hb, h.f.trans (hb.mono hB), h.st, h.bo, h.bp, h.bk⟩
theorem own_cap {n : Nat} {a : Option Addr} {c z : Nat} {e : TypeId} {xs : List Value} (h : w.ownsRow B e z (.slice a n c) n xs) : n ≤ c := by
  rcases h.2 with ⟨e1, h2⟩ | ⟨g, cap, cur, e1, h3, h4, h5, h6⟩
  · omega
  · injection e1 with _ _ e3
    omega
theorem pstep_big {t : Tk} (h2 : t.kd ≠ 2) (h : out.length = 4000 ∨ (t.kd = 1 ∧ op.length = 20)) : pstep t out op = (out, op, 7, t.po) := by
  unfold pstep
  rw [if_neg h2, if_pos h]
theorem prun_open {i : Nat} {y : Nd} (hi : op.getLast? = some i) (hy : out[i]? = some y) : prun [] out op = ([], 5, y.po) := by
  unfold prun
  rw [hi]
  dsimp only
  rw [hy]
theorem Try.info40 : (Try.prog.info? 40).map (fun i => (i.zero, i.size, i.bytes)) = some (some (.agg #[.int .i64 0, .string ⟨#[]⟩, .int .i64 0, .int .i64 0]), 4, 40) := by kernel_rfl
theorem own_kept2 {n m z y : Nat} {u v : Value} {e1 e2 : TypeId} {xs ys : List Value} (h : w.ownsRow B e1 z v n xs) (h2 : w.ownsRow B e2 y u m ys) (hne : e1 ≠ e2) (hg : w.grownBy w' u.ownBlock) : w'.ownsRow B e1 z v n xs := by
  refine h.kept hg ?_
  cases hv : v.ownBlock with
  | none => exact .inl rfl
  | some g =>
    right
    intro e
    exact (own_ty h hv).ne (own_ty h2 e.symm) hne rfl
theorem blk_grown {b : Nat} {t e : TypeId} {cs xs : List Value} {n z : Nat} {v : Value} (h : Blk w b t cs) (h2 : w.ownsRow B e z v n xs) (hne : t ≠ e) (hg : w.grownBy w' v.ownBlock) : Blk w' b t cs :=
  h.only ((Only.refl _ w).grown (S := v.ownBlock.toList) hg fun k hk => .inl (by rw [hk]; simp)) fun hm => (blk_ty h).ne (own_ty h2 (by simpa using hm)) hne rfl
theorem rows_raise : ∀ (l : List Nd) (i : Nat) (x : Nd), l[i]? = some x → (l.set i { x with ki := x.ki + 1 }).flatMap ndrow = (l.flatMap ndrow).set (i * 4 + 2) (.int .i64 (x.ki + 1))
  | [], i, x, h => by cases h
  | y :: l, 0, x, h => by
    injection h with h
    subst h
    rfl
  | y :: l, i + 1, x, h => by
    have ih := rows_raise l i x h
    rw [show (i + 1) * 4 + 2 = i * 4 + 2 + 4 by omega]
    show ndrow y ++ (l.set i { x with ki := x.ki + 1 }).flatMap ndrow = _
    rw [ih]
    rfl
theorem raise_len (l : List Nd) (i : Nat) : (raise l i).length = l.length := by
  unfold raise
  split
  · rw [List.length_set]
  · rfl
theorem raise_some {l : List Nd} {i : Nat} {x : Nd} (h : l[i]? = some x) : raise l i = l.set i { x with ki := x.ki + 1 } := by
  unfold raise
  rw [h]
/-- The nodes with the kid told. -/
def raised (out : List Nd) (op : List Nat) : List Nd := match op.getLast? with | some i => raise out i | none => out
theorem raised_len (out : List Nd) (op : List Nat) : (raised out op).length = out.length := by
  unfold raised
  split
  · exact raise_len _ _
  · rfl
theorem raised_ki {k : Nat} (h : ∀ y ∈ out, 0 ≤ y.ki ∧ y.ki ≤ k) : ∀ y ∈ raised out op, 0 ≤ y.ki ∧ y.ki ≤ ((k + 1 : Nat) : Int) := by
  have h' : ∀ y ∈ out, 0 ≤ y.ki ∧ y.ki ≤ ((k + 1 : Nat) : Int) := fun y hy => by have := h y hy; omega
  unfold raised
  split
  · unfold raise
    split
    · rename_i x hx
      intro y hy
      rcases List.mem_or_eq_of_mem_set hy with hy | rfl
      · exact h' y hy
      · have := h x (List.mem_of_getElem? hx)
        show 0 ≤ x.ki + 1 ∧ x.ki + 1 ≤ _
        omega
    · exact h'
  · exact h'
theorem PI.go {t : Tk} {vl' vo' : Value} (h : PI B w1 R ts k out op vl vo w) (ht : ts[k]? = some t) (h2 : t.kd ≠ 2) (hb : out.length ≠ 4000) (hd : ¬ (t.kd = 1 ∧ op.length = 20))
    (hol : w'.ownsRow B 40 4 vl' (out.length + 1) ((raised out op).flatMap ndrow ++ ndrow (ndOf t))) (hoo : w'.ownsRow B 3 1 vo' (if t.kd = 1 then op ++ [out.length] else op).length ((if t.kd = 1 then op ++ [out.length] else op).flatMap intE)) (hf : Below B w1 w') :
    PI B w1 R ts (k + 1) (raised out op ++ [ndOf t]) (if t.kd = 1 then op ++ [out.length] else op) vl' vo' w' := by
  have hlen : (raised out op ++ [ndOf t]).length = out.length + 1 := by rw [List.length_append, raised_len]; rfl
  have heq := h.eq
  have hp : pstep t out op = (raised out op ++ [ndOf t], if t.kd = 1 then op ++ [out.length] else op, 0, 0) := by
    unfold pstep
    rw [if_neg h2, if_neg (fun e => by rcases e with e | e; exact hb e; exact hd e)]
    rfl
  rw [drop_tk ht, prun_cons, hp, if_pos rfl] at heq
  have hbo := h.bo
  have hbp := h.bp
  refine ⟨heq, ?_, hoo, hf, ?_, by rw [hlen]; omega, ?_, ?_⟩
  · rw [hlen, List.flatMap_append]
    simpa using hol
  · intro i hi
    rw [hlen]
    split at hi
    · rcases List.mem_append.1 hi with hi | hi
      · have := h.st i hi; omega
      · rw [List.mem_singleton.1 hi]; omega
    · have := h.st i hi; omega
  · split
    · rename_i h1
      rw [List.length_append]
      have : op.length ≠ 20 := fun e => hd ⟨h1, e⟩
      show op.length + 1 ≤ 20
      omega
    · exact hbp
  · intro y hy
    rcases List.mem_append.1 hy with hy | hy
    · exact raised_ki h.bk y hy
    · rw [List.mem_singleton.1 hy]
      unfold ndOf
      split
      · show (0 : Int) ≤ 0 ∧ (0 : Int) ≤ ((k + 1 : Nat) : Int); omega
      · show (0 : Int) ≤ 0 ∧ (0 : Int) ≤ ((k + 1 : Nat) : Int); omega
theorem PI.close {t : Tk} {j : Nat} {js : List Nat} {a : Option Addr} {c : Nat} (h : PI B w1 R ts k out (j :: js) vl (.slice a (js.length + 1) c) w) (ht : ts[k]? = some t) (h2 : t.kd = 2) : PI B w1 R ts (k + 1) out (j :: js).dropLast vl (.slice a js.length c) w := by
  have hlen : (j :: js).dropLast.length = js.length := by rw [List.length_dropLast]; rfl
  have heq := h.eq
  have hp : pstep t out (j :: js) = (out, (j :: js).dropLast, 0, 0) := by unfold pstep; rw [if_pos h2, if_neg (by simp)]
  rw [drop_tk ht, prun_cons, hp, if_pos rfl] at heq
  refine ⟨heq, h.ol, ?_, h.f, fun i hi => h.st i ((List.dropLast_sublist _).subset hi), h.bo, by have := h.bp; rw [hlen]; rw [List.length_cons] at this; omega, fun y hy => by have := h.bk y hy; omega⟩
  rw [hlen]
  have h9 := own_cut (n := js.length) h.oo
  rw [ints_take, show (j :: js).take js.length = (j :: js).dropLast by rw [List.dropLast_eq_take]; rfl] at h9
  exact h9
end
set_option maxRecDepth 100000 in
set_option maxHeartbeats 4000000 in
theorem parse_any (s : ByteArray) (w : World) :
    Calls Try.prog 20 #[.string s] w fun e w' => ParsePost w.heap.size (parseB s) e w' ∧ Below w.heap.size w w' := by
  have HSc := Lib.hid (fun V => scan_any s V)
  have hf : (scanB s).2.1 = 0 → (scanB s).1.length ≤ 200000 := fun h0 => by
    by_cases hs : s.size ≤ 65536
    · have := (scanB_facts hs).1; omega
    · exfalso
      have e : scanB s = ([], 7, 65536) := by unfold scanB; rw [if_pos (by omega)]
      rw [e] at h0
      exact absurd h0 (by show ¬ (7 : Int) = 0; decide)
  have hP : parseB s = if (scanB s).2.1 = 0 then prun (scanB s).1 [] [] else ([], (scanB s).2.1, (scanB s).2.2) := rfl
  obtain ⟨⟨ts, er, pe⟩, hq⟩ : ∃ q, scanB s = q := ⟨_, rfl⟩
  rw [hq] at HSc hP hf
  obtain ⟨R, hR⟩ : ∃ R, parseB s = R := ⟨_, rfl⟩
  rw [hR] at hP ⊢
  by_cases he : er = 0
  · subst he
    have hP1 : prun ts [] [] = R := by rw [hP]; rfl
    have hn : ts.length ≤ 200000 := hf rfl
    have HP := Lib.hid hP1
    clear hf hP hP1 hq hR
    go_enter Try.func20, Try.ntmps20
    go_wp2_with ((go_at_call 34; (with_reducible refine (HSc.out _).mono ?_); rintro e9 w1 ⟨⟨v, rfl, ho⟩, hb⟩; (dsimp only at ho); (obtain ⟨x1, y1, rfl, hnn, hT⟩ := own_slice ho); have HB1 := Lib.hid hb; have HT1 := Lib.hid hT; clear ho hb hT hnn))
    have HB0 := Lib.hid (show PI w1.heap.size w1 R ts 0 [] [] (.slice none 0 0) (.slice none 0 0) w1 from ⟨HP.out, World.ownsRow_nil _ _ _ _, World.ownsRow_nil _ _ _ _, Below.refl _ _, (fun i h => by cases h), Nat.zero_le _, Nat.zero_le _, (fun y h => by cases h)⟩)
    go_loopw [8, 9, 24] (fun vl vo vk wr => ∃ (k : Nat) (out : List Nd) (op : List Nat), k ≤ ts.length ∧ vk = .int .i64 k ∧ PI w1.heap.size w1 R ts k out op vl vo wr) (fun _ _ vk _ => ts.length - (intOf vk).toNat)
    case atStart => exact ⟨0, [], [], Nat.zero_le _, rfl, HB0.out⟩
    case round =>
      clear HB0
      obtain ⟨k, out, op, hk, rfl, hI⟩ := hrel
      have HI := Lib.hid hI
      obtain ⟨al, cl, rfl⟩ := own_sl hI.ol
      obtain ⟨ao, co, rfl⟩ := own_sl hI.oo
      have hbo := hI.bo
      have hbp := hI.bp
      have HBw := Lib.hid (show Below w.heap.size w wr from HB1.out.trans (hI.f.mono HB1.out.size))
      clear hI
      by_cases hlt : k < ts.length
      · obtain ⟨t, ht⟩ := mem_at (l := ts) (k := k) hlt
        obtain ⟨b, o, rfl, hb, hc⟩ := (HT1.out.mono HI.out.f) (by omega)
        obtain ⟨c0, c1, c2, c3, c4⟩ := tk_cells (hc k t ht)
        have heq := HI.out.eq
        rw [drop_tk ht, prun_cons] at heq
        have HEq := Lib.hid heq
        obtain ⟨kd, tx, po, ln, cc⟩ := t
        dsimp only at c0 c1 c2 c3 c4
        have HTk := Lib.hid ht
        clear heq hc ht
        by_cases k2 : kd = 2
        · subst k2
          cases hop : op with
          | nil =>
            subst hop
            have hr : R = ([], 6, po) := by rw [← HEq.out]; rfl
            subst hr
            clear HEq HP HSc
            go_wp2
            go_quiet (fail)
            go_wp2
            refine bodyPost_ret (v := .tuple #[.slice none 0 0, .int .i64 6, .int .i64 po]) (by simp [results, Try.results20, go_sem]) rfl ⟨⟨_, rfl, World.ownsRow_nil _ _ _ _⟩, by have h9 := HBw.out; have h10 := h9.size; (repeat' (first | with_reducible exact Below.refl _ _ | with_reducible assumption | with_reducible refine Below.drew ?_ | with_reducible refine below_drewN' ?_ _ | with_reducible refine Below.alloc ?_ ?_ _ | with_reducible refine Below.setCell ?_ ?_ _ | with_reducible refine below_step (by assumption) ?_ ?_ | omega | (simp; done) | (simp; omega)))⟩
          | cons j js =>
            subst hop
            have hcap := own_cap HI.out.oo
            rw [List.length_cons] at hcap hbp
            have hjs : js.length ≤ 19 := by omega
            have HC := Lib.hid (HI.out.close HTk.out rfl)
            have hsz : w1.heap.size ≤ wr.heap.size := HI.out.f.size
            clear HEq HP HSc
            go_wp2
            go_roundw
            case rel => exact ⟨k + 1, out, _, by omega, by go_num, HC.out.below (by (repeat' (first | with_reducible exact Below.refl _ _ | with_reducible assumption | with_reducible refine Below.drew ?_ | with_reducible refine below_drewN' ?_ _ | with_reducible refine Below.alloc ?_ ?_ _ | with_reducible refine Below.setCell ?_ ?_ _ | with_reducible refine below_step (by assumption) ?_ ?_ | omega | (simp; done) | (simp; omega)))) hsz⟩
            case measure => simp [intOf]; omega
        · have n2 : (kd == 2) = false := by simpa using k2
          by_cases hbig : out.length = 4000
          · have hr : R = ([], 7, po) := by rw [← HEq.out, pstep_big k2 (.inl hbig)]; rfl
            subst hr
            have q1 : ((out.length : Int) == 4000) = true := by rw [beq_iff_eq]; omega
            have hsz : w1.heap.size ≤ wr.heap.size := HI.out.f.size
            clear HEq HP HSc
            go_wp2
            go_quiet (fail)
            go_wp2
            refine bodyPost_ret (v := .tuple #[.slice none 0 0, .int .i64 7, .int .i64 po]) (by simp [results, Try.results20, go_sem]) rfl ⟨⟨_, rfl, World.ownsRow_nil _ _ _ _⟩, by have h9 := HBw.out; have h10 := h9.size; (repeat' (first | with_reducible exact Below.refl _ _ | with_reducible assumption | with_reducible refine Below.drew ?_ | with_reducible refine below_drewN' ?_ _ | with_reducible refine Below.alloc ?_ ?_ _ | with_reducible refine Below.setCell ?_ ?_ _ | with_reducible refine below_step (by assumption) ?_ ?_ | omega | (simp; done) | (simp; omega)))⟩
          by_cases hdeep : kd = 1 ∧ op.length = 20
          · obtain ⟨k1, hop⟩ := hdeep
            have hr : R = ([], 7, po) := by rw [← HEq.out, pstep_big k2 (.inr ⟨k1, hop⟩)]; rfl
            subst hr
            subst k1
            have q1 : ((out.length : Int) == 4000) = false := by rw [beq_eq_false_iff_ne]; omega
            have q2 : ((op.length : Int) == 20) = true := by rw [beq_iff_eq]; omega
            have hsz : w1.heap.size ≤ wr.heap.size := HI.out.f.size
            clear HEq HP HSc hop
            go_wp2
            go_quiet (fail)
            go_wp2
            refine bodyPost_ret (v := .tuple #[.slice none 0 0, .int .i64 7, .int .i64 po]) (by simp [results, Try.results20, go_sem]) rfl ⟨⟨_, rfl, World.ownsRow_nil _ _ _ _⟩, by have h9 := HBw.out; have h10 := h9.size; (repeat' (first | with_reducible exact Below.refl _ _ | with_reducible assumption | with_reducible refine Below.drew ?_ | with_reducible refine below_drewN' ?_ _ | with_reducible refine Below.alloc ?_ ?_ _ | with_reducible refine Below.setCell ?_ ?_ _ | with_reducible refine below_step (by assumption) ?_ ?_ | omega | (simp; done) | (simp; omega)))⟩
          have hb4 : out.length < 4000 := by omega
          have q1 : ((out.length : Int) == 4000) = false := by rw [beq_eq_false_iff_ne]; omega
          have HG0 := Lib.hid (fun vl' vo' w' hol hoo hf => HI.out.go (vl' := vl') (vo' := vo') (w' := w') HTk.out k2 hbig hdeep hol hoo hf)
          have HNd0 := Lib.hid (fun V => node_any ⟨kd, tx, po, ln, cc⟩ V)
          have hsz : w1.heap.size ≤ wr.heap.size := HI.out.f.size
          obtain ⟨j0, ji, jz0, jz1, jz2⟩ := info_parts Try.info40
          have Ji := Lib.hid ji
          have Jz0 := Lib.hid jz0
          have Jz1 := Lib.hid jz1
          have Jz2 := Lib.hid jz2
          clear ji jz0 jz1 jz2
          by_cases k1 : kd = 1
          · subst k1
            have hdp : op.length ≠ 20 := fun e => hdeep ⟨rfl, e⟩
            have HNd := Lib.hid (show ∀ V : World, Calls Try.prog 35 #[.agg #[.int .i64 1, .string tx, .int .i64 po, .int .i64 ln, .int .i64 cc]] V fun e w' => e = .returned (.agg #[.int .i64 5, .string ⟨#[]⟩, .int .i64 0, .int .i64 po]) ∧ Below V.heap.size V w' from fun V => HNd0.out V)
            have HG := Lib.hid (show ∀ (vl' vo' : Value) (w' : World), w'.ownsRow w1.heap.size 40 4 vl' (out.length + 1) ((raised out op).flatMap ndrow ++ [.int .i64 5, .string ⟨#[]⟩, .int .i64 0, .int .i64 po]) → w'.ownsRow w1.heap.size 3 1 vo' (op.length + 1) (op.flatMap intE ++ [.int .i64 (out.length : Int)]) → Below w1.heap.size w1 w' → PI w1.heap.size w1 R ts (k + 1) (raised out op ++ [⟨5, emp, 0, po⟩]) (op ++ [out.length]) vl' vo' w' from fun vl' vo' w' h1 h2 h3 => by
              have h9 := HG0.out vl' vo' w'
              rw [if_pos rfl] at h9
              refine h9 h1 ?_ h3
              rw [List.length_append, List.flatMap_append]
              exact h2)
            obtain ⟨i0, hi, hz0, hz1, hz2⟩ := info_parts Try.info3
            have Hi := Lib.hid hi
            have Hz0 := Lib.hid hz0
            have Hz1 := Lib.hid hz1
            have Hz2 := Lib.hid hz2
            clear hi hz0 hz1 hz2
            clear HNd0 HG0 HEq HP HSc HTk k2 hbig hdeep
            cases hop : op with
            | nil =>
              subst hop
              go_upto_region 17 with (fail)
              obtain ⟨WA, hWA⟩ : ∃ WA, WA = wr.alloc (.cells #[.int .i64 1, .string tx, .int .i64 po, .int .i64 ln, .int .i64 cc] 59) := ⟨_, rfl⟩
              rw [← hWA]
              have hBx : Blk WA wr.heap.size 59 [.int .i64 1, .string tx, .int .i64 po, .int .i64 ln, .int .i64 cc] := by rw [hWA]; exact Blk.new wr _ _
              have hOL : WA.ownsRow w1.heap.size 40 4 (.slice al out.length cl) out.length ((raised out []).flatMap ndrow) := by rw [hWA]; exact HI.out.ol.alloc _
              have hOO : WA.ownsRow w1.heap.size 3 1 (.slice ao 0 co) 0 (([] : List Nat).flatMap intE) := by rw [hWA]; exact HI.out.oo.alloc _
              have hFA : Below w1.heap.size w1 WA := by rw [hWA]; exact HI.out.f.alloc hsz _
              have d0 := hBx.cell 0
              have d1 := hBx.cell 1
              have d2 := hBx.cell 2
              have d3 := hBx.cell 3
              have d4 := hBx.cell 4
              have l9 := hBx.lt
              dsimp only [List.getElem?_cons_zero, List.getElem?_cons_succ] at d0 d1 d2 d3 d4
              have HBx := Lib.hid hBx
              have HOL := Lib.hid hOL
              have HOO := Lib.hid hOO
              have HFA := Lib.hid hFA
              have hsA : w1.heap.size ≤ WA.heap.size := hFA.size
              clear hWA hBx hOL hOO hFA
              go_upto_region 19 with (at_builtin; refine wpList_append_src rfl (.tmp 75) (.tmp 78) 30 rfl w1.heap.size 3 i0 _ 1 8 Try.underlying30 Hi.out Hz0.out Hz1.out Hz2.out rfl (by decide) _ 0 (([] : List Nat).flatMap intE) rfl (HOO.out.alloc _) (some ⟨WA.heap.size, 0, none⟩) 1 1 [.int .i64 (out.length : Int)] rfl rfl (fun q e => by injection e with e; rw [← e]; exact news_at _ _ _) (fun e => by cases e) (intE_one out.length) (by unfold maxLen; omega) (by omega) (by simp; omega) ?_; intro v5 w5 hown5 hgrow5; obtain ⟨a5, k5, rfl⟩ := own_sl hown5; have hbx5 := blk_grown (HBx.out.alloc _) (HOO.out.alloc _) (by decide) hgrow5; have e0 := hbx5.cell 0; have e1 := hbx5.cell 1; have e2 := hbx5.cell 2; have e3 := hbx5.cell 3; have e4 := hbx5.cell 4; (dsimp only [List.getElem?_cons_zero, List.getElem?_cons_succ] at e0 e1 e2 e3 e4); have l5 := hbx5.lt; have HOL5 := Lib.hid (own_kept2 (HOL.out.alloc _) (HOO.out.alloc _) (by decide) hgrow5); have HOO5 := Lib.hid hown5; have HF5 := Lib.hid (own_below (HOO.out.alloc _) (HFA.out.alloc hsA _) (by simp; omega) hgrow5); have hs5 := HF5.out.size; clear hown5 hgrow5 hbx5)
              go_wp2_with (first
                | (go_at_call 35; (with_reducible refine (HNd.out _).mono ?_); rintro e w3 ⟨rfl, hb⟩; have HOL3 := Lib.hid (own_kept HOL5.out hb); have HOO3 := Lib.hid (own_kept HOO5.out hb); have HF3 := Lib.hid (HF5.out.trans (hb.mono hs5)); have hs3 := HF3.out.size; clear hb)
                | (at_builtin; refine wpList_append_src rfl (.tmp 80) (.tmp 83) 22 rfl w1.heap.size 40 j0 _ 4 40 Try.underlying22 Ji.out Jz0.out Jz1.out Jz2.out rfl (by decide) _ out.length ((raised out []).flatMap ndrow) rfl (HOL3.out.alloc _) (some ⟨w3.heap.size, 0, none⟩) 1 1 [.int .i64 5, .string ⟨#[]⟩, .int .i64 0, .int .i64 po] rfl rfl (fun q e => by injection e with e; rw [← e]; exact news_at _ _ _) (fun e => by cases e) (by simp [Value.oneCell']) (by unfold maxLen; omega) (by omega) (by simp; omega) ?_; intro v4 w4 hown4 hgrow4; have HO4 := Lib.hid hown4; have HF4 := Lib.hid (own_below (HOL3.out.alloc _) (HF3.out.alloc hs3 _) (by simp; omega) hgrow4); have HOO4 := Lib.hid (own_kept2 (HOO3.out.alloc _) (HOL3.out.alloc _) (by decide) hgrow4); clear hown4 hgrow4))
              go_roundw
              case rel => exact ⟨k + 1, _, _, by omega, by go_num, HG.out _ _ _ HO4.out HOO4.out HF4.out⟩
              case measure => simp [intOf]; omega
            | cons j js =>
              subst hop
              have q2 : ((js.length : Int) + 1 == 20) = false := by rw [beq_eq_false_iff_ne]; rw [List.length_cons] at hdp; omega
              obtain ⟨i, hi⟩ : ∃ i, (j :: js).getLast? = some i := ⟨_, List.getLast?_eq_some_getLast (by simp)⟩
              have him : i ∈ j :: js := List.mem_of_getLast? hi
              have hil := HI.out.st i him
              have hi2 : (j :: js)[js.length]? = some i := by
                rw [← hi, List.getLast?_eq_getElem?]
                rfl
              obtain ⟨y, hy⟩ := mem_at (l := out) (k := i) hil
              have hbk := HI.out.bk y (List.mem_of_getElem? hy)
              have hra : raised out (j :: js) = out.set i { y with ki := y.ki + 1 } := by
                unfold raised
                rw [hi]
                exact raise_some hy
              obtain ⟨ao', co', eo, hco⟩ := own_rows intE_len HI.out.oo (by decide)
              obtain ⟨bo, e1, hBo, hbo2, hco⟩ := hco (by simp)
              have x0 := hco js.length i hi2 0 (by decide)
              obtain ⟨al', cl', el, hcl⟩ := own_rows ndrow_len HI.out.ol (by decide)
              obtain ⟨bl, e2, hBl, hbl2, hcl⟩ := hcl (by omega)
              have x1 := hcl i y hy 2 (by decide)
              injection eo with eo1 _ eo3
              injection el with el1 _ el3
              rw [e1] at eo1
              rw [e2] at el1
              subst eo1
              subst el1
              subst eo3
              subst el3
              have hcap := own_cap HI.out.oo
              rw [List.length_cons] at hcap hbp
              have hjs : js.length ≤ 19 := by omega
              have f9 := HI.out.ol.frozenAt (i * 4 + 2)
              dsimp only [intE, ndrow, List.getElem?_cons_zero, List.getElem?_cons_succ] at x0 x1
              rw [Nat.zero_add, Nat.mul_one, Nat.add_zero] at x0
              rw [Nat.zero_add] at x1
              have hio : (i : Int) < (out.length : Int) := by omega
              have hi0 : (0 : Int) ≤ (i : Int) := by omega
              obtain ⟨ki, hki⟩ : ∃ ki, y.ki = ki := ⟨_, rfl⟩
              have hrow := rows_raise out i y hy
              rw [hki] at x1 hbk hra hrow
              have HZs := Lib.hid (show (wr.setCell ⟨bl, i * 4 + 2, none⟩ (.int .i64 (ki + 1))).heap.size = wr.heap.size by simp)
              have HOLs := Lib.hid (fun (o : Obj) => show ((wr.setCell ⟨bl, i * 4 + 2, none⟩ (.int .i64 (ki + 1))).alloc o).ownsRow w1.heap.size 40 4 (.slice (some ⟨bl, 0, none⟩) out.length cl) out.length ((raised out (j :: js)).flatMap ndrow) by rw [hra, hrow]; exact ((HI.out.ol.stored (i * 4 + 2) _).1).alloc o)
              have HOOs := Lib.hid (fun (o : Obj) => show ((wr.setCell ⟨bl, i * 4 + 2, none⟩ (.int .i64 (ki + 1))).alloc o).ownsRow w1.heap.size 3 1 (.slice (some ⟨bo, 0, none⟩) (js.length + 1) co) (js.length + 1) ((j :: js).flatMap intE) from (own_same HI.out.oo fun g hg => Below.heap_setCell wr ⟨bl, i * 4 + 2, none⟩ (.int .i64 (ki + 1)) g ((own_ty HI.out.oo hg).ne (own_ty HI.out.ol rfl) (by decide))).alloc o)
              have HFs := Lib.hid (fun (o : Obj) => show Below w1.heap.size w1 ((wr.setCell ⟨bl, i * 4 + 2, none⟩ (.int .i64 (ki + 1))).alloc o) from (HI.out.f.setCell hBl _).alloc (by rw [HZs.out]; exact hsz) o)
              have HBs := Lib.hid (fun (cs : List Value) (t : TypeId) => show Blk ((wr.setCell ⟨bl, i * 4 + 2, none⟩ (.int .i64 (ki + 1))).alloc (.cells cs.toArray t)) wr.heap.size t cs from HZs.out ▸ Blk.new (wr.setCell ⟨bl, i * 4 + 2, none⟩ (.int .i64 (ki + 1))) t cs)
              have hk2 : (k : Int) ≤ 200000 := by omega
              obtain ⟨hbk0, hbk1⟩ := hbk
              clear hco hcl hi hi2 him hy hra hrow hki
              go_upto_region 17 with (fail)
              obtain ⟨WA, hWA⟩ : ∃ WA, WA = (wr.setCell ⟨bl, i * 4 + 2, none⟩ (.int .i64 (ki + 1))).alloc (.cells #[.int .i64 1, .string tx, .int .i64 po, .int .i64 ln, .int .i64 cc] 59) := ⟨_, rfl⟩
              rw [← hWA]
              have hBx : Blk WA wr.heap.size 59 [.int .i64 1, .string tx, .int .i64 po, .int .i64 ln, .int .i64 cc] := by rw [hWA]; exact HBs.out [.int .i64 1, .string tx, .int .i64 po, .int .i64 ln, .int .i64 cc] _
              have hOL : WA.ownsRow w1.heap.size 40 4 (.slice (some ⟨bl, 0, none⟩) out.length cl) out.length ((raised out (j :: js)).flatMap ndrow) := by rw [hWA]; exact HOLs.out _
              have hOO : WA.ownsRow w1.heap.size 3 1 (.slice (some ⟨bo, 0, none⟩) (js.length + 1) co) (js.length + 1) (((j :: js) : List Nat).flatMap intE) := by rw [hWA]; exact HOOs.out _
              have hFA : Below w1.heap.size w1 WA := by rw [hWA]; exact HFs.out _
              have d0 := hBx.cell 0
              have d1 := hBx.cell 1
              have d2 := hBx.cell 2
              have d3 := hBx.cell 3
              have d4 := hBx.cell 4
              have l9 := hBx.lt
              dsimp only [List.getElem?_cons_zero, List.getElem?_cons_succ] at d0 d1 d2 d3 d4
              have HBx := Lib.hid hBx
              have HOL := Lib.hid hOL
              have HOO := Lib.hid hOO
              have HFA := Lib.hid hFA
              have hsA : w1.heap.size ≤ WA.heap.size := hFA.size
              clear hWA hBx hOL hOO hFA
              go_upto_region 19 with (at_builtin; refine wpList_append_src rfl (.tmp 75) (.tmp 78) 30 rfl w1.heap.size 3 i0 _ 1 8 Try.underlying30 Hi.out Hz0.out Hz1.out Hz2.out rfl (by decide) _ (js.length + 1) (((j :: js) : List Nat).flatMap intE) rfl (HOO.out.alloc _) (some ⟨WA.heap.size, 0, none⟩) 1 1 [.int .i64 (out.length : Int)] rfl rfl (fun q e => by injection e with e; rw [← e]; exact news_at _ _ _) (fun e => by cases e) (intE_one out.length) (by unfold maxLen; omega) (by omega) (by simp; omega) ?_; intro v5 w5 hown5 hgrow5; obtain ⟨a5, k5, rfl⟩ := own_sl hown5; have hbx5 := blk_grown (HBx.out.alloc _) (HOO.out.alloc _) (by decide) hgrow5; have e0 := hbx5.cell 0; have e1 := hbx5.cell 1; have e2 := hbx5.cell 2; have e3 := hbx5.cell 3; have e4 := hbx5.cell 4; (dsimp only [List.getElem?_cons_zero, List.getElem?_cons_succ] at e0 e1 e2 e3 e4); have l5 := hbx5.lt; have HOL5 := Lib.hid (own_kept2 (HOL.out.alloc _) (HOO.out.alloc _) (by decide) hgrow5); have HOO5 := Lib.hid hown5; have HF5 := Lib.hid (own_below (HOO.out.alloc _) (HFA.out.alloc hsA _) (by simp; omega) hgrow5); have hs5 := HF5.out.size; clear hown5 hgrow5 hbx5)
              go_wp2_with (first
                | (go_at_call 35; (with_reducible refine (HNd.out _).mono ?_); rintro e w3 ⟨rfl, hb⟩; have HOL3 := Lib.hid (own_kept HOL5.out hb); have HOO3 := Lib.hid (own_kept HOO5.out hb); have HF3 := Lib.hid (HF5.out.trans (hb.mono hs5)); have hs3 := HF3.out.size; clear hb)
                | (at_builtin; refine wpList_append_src rfl (.tmp 80) (.tmp 83) 22 rfl w1.heap.size 40 j0 _ 4 40 Try.underlying22 Ji.out Jz0.out Jz1.out Jz2.out rfl (by decide) _ out.length ((raised out (j :: js)).flatMap ndrow) rfl (HOL3.out.alloc _) (some ⟨w3.heap.size, 0, none⟩) 1 1 [.int .i64 5, .string ⟨#[]⟩, .int .i64 0, .int .i64 po] rfl rfl (fun q e => by injection e with e; rw [← e]; exact news_at _ _ _) (fun e => by cases e) (by simp [Value.oneCell']) (by unfold maxLen; omega) (by omega) (by simp; omega) ?_; intro v4 w4 hown4 hgrow4; have HO4 := Lib.hid hown4; have HF4 := Lib.hid (own_below (HOL3.out.alloc _) (HF3.out.alloc hs3 _) (by simp; omega) hgrow4); have HOO4 := Lib.hid (own_kept2 (HOO3.out.alloc _) (HOL3.out.alloc _) (by decide) hgrow4); clear hown4 hgrow4))
              go_roundw
              case rel => exact ⟨k + 1, _, _, by omega, by go_num, HG.out _ _ _ HO4.out HOO4.out HF4.out⟩
              case measure => simp [intOf]; omega
          · have n1 : (kd == 1) = false := by simpa using k1
            have HNd := Lib.hid (show ∀ V : World, Calls Try.prog 35 #[.agg #[.int .i64 kd, .string tx, .int .i64 po, .int .i64 ln, .int .i64 cc]] V fun e w' => e = .returned (.agg #[.int .i64 kd, .string tx, .int .i64 0, .int .i64 po]) ∧ Below V.heap.size V w' from fun V => by have h9 := HNd0.out V; rw [show ndOf ⟨kd, tx, po, ln, cc⟩ = ⟨kd, tx, 0, po⟩ from if_neg k1] at h9; exact h9)
            have HG := Lib.hid (show ∀ (vl' vo' : Value) (w' : World), w'.ownsRow w1.heap.size 40 4 vl' (out.length + 1) ((raised out op).flatMap ndrow ++ [.int .i64 kd, .string tx, .int .i64 0, .int .i64 po]) → w'.ownsRow w1.heap.size 3 1 vo' op.length (op.flatMap intE) → Below w1.heap.size w1 w' → PI w1.heap.size w1 R ts (k + 1) (raised out op ++ [⟨kd, tx, 0, po⟩]) op vl' vo' w' from fun vl' vo' w' h1 h2 h3 => by
              have h9 := HG0.out vl' vo' w'
              rw [show ndOf ⟨kd, tx, po, ln, cc⟩ = ⟨kd, tx, 0, po⟩ from if_neg k1, if_neg (show ¬ (⟨kd, tx, po, ln, cc⟩ : Tk).kd = 1 from k1)] at h9
              exact h9 h1 h2 h3)
            clear HNd0 HG0 HEq HP HSc HTk k2 hbig hdeep
            cases hop : op with
            | nil =>
              subst hop
              go_upto_region 17 with (fail)
              obtain ⟨WA, hWA⟩ : ∃ WA, WA = wr.alloc (.cells #[.int .i64 kd, .string tx, .int .i64 po, .int .i64 ln, .int .i64 cc] 59) := ⟨_, rfl⟩
              rw [← hWA]
              have hBx : Blk WA wr.heap.size 59 [.int .i64 kd, .string tx, .int .i64 po, .int .i64 ln, .int .i64 cc] := by rw [hWA]; exact Blk.new wr _ _
              have hOL : WA.ownsRow w1.heap.size 40 4 (.slice al out.length cl) out.length ((raised out []).flatMap ndrow) := by rw [hWA]; exact HI.out.ol.alloc _
              have hOO : WA.ownsRow w1.heap.size 3 1 (.slice ao 0 co) 0 (([] : List Nat).flatMap intE) := by rw [hWA]; exact HI.out.oo.alloc _
              have hFA : Below w1.heap.size w1 WA := by rw [hWA]; exact HI.out.f.alloc hsz _
              have d0 := hBx.cell 0
              have d1 := hBx.cell 1
              have d2 := hBx.cell 2
              have d3 := hBx.cell 3
              have d4 := hBx.cell 4
              have l9 := hBx.lt
              dsimp only [List.getElem?_cons_zero, List.getElem?_cons_succ] at d0 d1 d2 d3 d4
              have HBx := Lib.hid hBx
              have HOL := Lib.hid hOL
              have HOO := Lib.hid hOO
              have HFA := Lib.hid hFA
              have hsA : w1.heap.size ≤ WA.heap.size := hFA.size
              clear hWA hBx hOL hOO hFA
              go_wp2_with (first
                | (go_at_call 35; (with_reducible refine (HNd.out _).mono ?_); rintro e w3 ⟨rfl, hb⟩; have HOL3 := Lib.hid (own_kept HOL.out hb); have HOO3 := Lib.hid (own_kept HOO.out hb); have HF3 := Lib.hid (HFA.out.trans (hb.mono hsA)); have hs3 := HF3.out.size; clear hb)
                | (at_builtin; refine wpList_append_src rfl (.tmp 80) (.tmp 83) 22 rfl w1.heap.size 40 j0 _ 4 40 Try.underlying22 Ji.out Jz0.out Jz1.out Jz2.out rfl (by decide) _ out.length ((raised out []).flatMap ndrow) rfl (HOL3.out.alloc _) (some ⟨w3.heap.size, 0, none⟩) 1 1 [.int .i64 kd, .string tx, .int .i64 0, .int .i64 po] rfl rfl (fun q e => by injection e with e; rw [← e]; exact news_at _ _ _) (fun e => by cases e) (by simp [Value.oneCell']) (by unfold maxLen; omega) (by omega) (by simp; omega) ?_; intro v4 w4 hown4 hgrow4; have HO4 := Lib.hid hown4; have HF4 := Lib.hid (own_below (HOL3.out.alloc _) (HF3.out.alloc hs3 _) (by simp; omega) hgrow4); have HOO4 := Lib.hid (own_kept2 (HOO3.out.alloc _) (HOL3.out.alloc _) (by decide) hgrow4); clear hown4 hgrow4))
              go_roundw
              case rel => exact ⟨k + 1, _, _, by omega, by go_num, HG.out _ _ _ HO4.out HOO4.out HF4.out⟩
              case measure => simp [intOf]; omega
            | cons j js =>
              subst hop
              obtain ⟨i, hi⟩ : ∃ i, (j :: js).getLast? = some i := ⟨_, List.getLast?_eq_some_getLast (by simp)⟩
              have him : i ∈ j :: js := List.mem_of_getLast? hi
              have hil := HI.out.st i him
              have hi2 : (j :: js)[js.length]? = some i := by
                rw [← hi, List.getLast?_eq_getElem?]
                rfl
              obtain ⟨y, hy⟩ := mem_at (l := out) (k := i) hil
              have hbk := HI.out.bk y (List.mem_of_getElem? hy)
              have hra : raised out (j :: js) = out.set i { y with ki := y.ki + 1 } := by
                unfold raised
                rw [hi]
                exact raise_some hy
              obtain ⟨ao', co', eo, hco⟩ := own_rows intE_len HI.out.oo (by decide)
              obtain ⟨bo, e1, hBo, hbo2, hco⟩ := hco (by simp)
              have x0 := hco js.length i hi2 0 (by decide)
              obtain ⟨al', cl', el, hcl⟩ := own_rows ndrow_len HI.out.ol (by decide)
              obtain ⟨bl, e2, hBl, hbl2, hcl⟩ := hcl (by omega)
              have x1 := hcl i y hy 2 (by decide)
              injection eo with eo1 _ eo3
              injection el with el1 _ el3
              rw [e1] at eo1
              rw [e2] at el1
              subst eo1
              subst el1
              subst eo3
              subst el3
              have hcap := own_cap HI.out.oo
              rw [List.length_cons] at hcap hbp
              have hjs : js.length ≤ 19 := by omega
              have f9 := HI.out.ol.frozenAt (i * 4 + 2)
              dsimp only [intE, ndrow, List.getElem?_cons_zero, List.getElem?_cons_succ] at x0 x1
              rw [Nat.zero_add, Nat.mul_one, Nat.add_zero] at x0
              rw [Nat.zero_add] at x1
              have hio : (i : Int) < (out.length : Int) := by omega
              have hi0 : (0 : Int) ≤ (i : Int) := by omega
              obtain ⟨ki, hki⟩ : ∃ ki, y.ki = ki := ⟨_, rfl⟩
              have hrow := rows_raise out i y hy
              rw [hki] at x1 hbk hra hrow
              have HZs := Lib.hid (show (wr.setCell ⟨bl, i * 4 + 2, none⟩ (.int .i64 (ki + 1))).heap.size = wr.heap.size by simp)
              have HOLs := Lib.hid (fun (o : Obj) => show ((wr.setCell ⟨bl, i * 4 + 2, none⟩ (.int .i64 (ki + 1))).alloc o).ownsRow w1.heap.size 40 4 (.slice (some ⟨bl, 0, none⟩) out.length cl) out.length ((raised out (j :: js)).flatMap ndrow) by rw [hra, hrow]; exact ((HI.out.ol.stored (i * 4 + 2) _).1).alloc o)
              have HOOs := Lib.hid (fun (o : Obj) => show ((wr.setCell ⟨bl, i * 4 + 2, none⟩ (.int .i64 (ki + 1))).alloc o).ownsRow w1.heap.size 3 1 (.slice (some ⟨bo, 0, none⟩) (js.length + 1) co) (js.length + 1) ((j :: js).flatMap intE) from (own_same HI.out.oo fun g hg => Below.heap_setCell wr ⟨bl, i * 4 + 2, none⟩ (.int .i64 (ki + 1)) g ((own_ty HI.out.oo hg).ne (own_ty HI.out.ol rfl) (by decide))).alloc o)
              have HFs := Lib.hid (fun (o : Obj) => show Below w1.heap.size w1 ((wr.setCell ⟨bl, i * 4 + 2, none⟩ (.int .i64 (ki + 1))).alloc o) from (HI.out.f.setCell hBl _).alloc (by rw [HZs.out]; exact hsz) o)
              have HBs := Lib.hid (fun (cs : List Value) (t : TypeId) => show Blk ((wr.setCell ⟨bl, i * 4 + 2, none⟩ (.int .i64 (ki + 1))).alloc (.cells cs.toArray t)) wr.heap.size t cs from HZs.out ▸ Blk.new (wr.setCell ⟨bl, i * 4 + 2, none⟩ (.int .i64 (ki + 1))) t cs)
              have hk2 : (k : Int) ≤ 200000 := by omega
              obtain ⟨hbk0, hbk1⟩ := hbk
              clear hco hcl hi hi2 him hy hra hrow hki
              go_upto_region 17 with (fail)
              obtain ⟨WA, hWA⟩ : ∃ WA, WA = (wr.setCell ⟨bl, i * 4 + 2, none⟩ (.int .i64 (ki + 1))).alloc (.cells #[.int .i64 kd, .string tx, .int .i64 po, .int .i64 ln, .int .i64 cc] 59) := ⟨_, rfl⟩
              rw [← hWA]
              have hBx : Blk WA wr.heap.size 59 [.int .i64 kd, .string tx, .int .i64 po, .int .i64 ln, .int .i64 cc] := by rw [hWA]; exact HBs.out [.int .i64 kd, .string tx, .int .i64 po, .int .i64 ln, .int .i64 cc] _
              have hOL : WA.ownsRow w1.heap.size 40 4 (.slice (some ⟨bl, 0, none⟩) out.length cl) out.length ((raised out (j :: js)).flatMap ndrow) := by rw [hWA]; exact HOLs.out _
              have hOO : WA.ownsRow w1.heap.size 3 1 (.slice (some ⟨bo, 0, none⟩) (js.length + 1) co) (js.length + 1) (((j :: js) : List Nat).flatMap intE) := by rw [hWA]; exact HOOs.out _
              have hFA : Below w1.heap.size w1 WA := by rw [hWA]; exact HFs.out _
              have d0 := hBx.cell 0
              have d1 := hBx.cell 1
              have d2 := hBx.cell 2
              have d3 := hBx.cell 3
              have d4 := hBx.cell 4
              have l9 := hBx.lt
              dsimp only [List.getElem?_cons_zero, List.getElem?_cons_succ] at d0 d1 d2 d3 d4
              have HBx := Lib.hid hBx
              have HOL := Lib.hid hOL
              have HOO := Lib.hid hOO
              have HFA := Lib.hid hFA
              have hsA : w1.heap.size ≤ WA.heap.size := hFA.size
              clear hWA hBx hOL hOO hFA
              go_wp2_with (first
                | (go_at_call 35; (with_reducible refine (HNd.out _).mono ?_); rintro e w3 ⟨rfl, hb⟩; have HOL3 := Lib.hid (own_kept HOL.out hb); have HOO3 := Lib.hid (own_kept HOO.out hb); have HF3 := Lib.hid (HFA.out.trans (hb.mono hsA)); have hs3 := HF3.out.size; clear hb)
                | (at_builtin; refine wpList_append_src rfl (.tmp 80) (.tmp 83) 22 rfl w1.heap.size 40 j0 _ 4 40 Try.underlying22 Ji.out Jz0.out Jz1.out Jz2.out rfl (by decide) _ out.length ((raised out (j :: js)).flatMap ndrow) rfl (HOL3.out.alloc _) (some ⟨w3.heap.size, 0, none⟩) 1 1 [.int .i64 kd, .string tx, .int .i64 0, .int .i64 po] rfl rfl (fun q e => by injection e with e; rw [← e]; exact news_at _ _ _) (fun e => by cases e) (by simp [Value.oneCell']) (by unfold maxLen; omega) (by omega) (by simp; omega) ?_; intro v4 w4 hown4 hgrow4; have HO4 := Lib.hid hown4; have HF4 := Lib.hid (own_below (HOL3.out.alloc _) (HF3.out.alloc hs3 _) (by simp; omega) hgrow4); have HOO4 := Lib.hid (own_kept2 (HOO3.out.alloc _) (HOL3.out.alloc _) (by decide) hgrow4); clear hown4 hgrow4))
              go_roundw
              case rel => exact ⟨k + 1, _, _, by omega, by go_num, HG.out _ _ _ HO4.out HOO4.out HF4.out⟩
              case measure => simp [intOf]; omega
      · obtain rfl : k = ts.length := by omega
        have heq := HI.out.eq
        rw [List.drop_of_length_le (Nat.le_refl _)] at heq
        have hsz : w1.heap.size ≤ wr.heap.size := HI.out.f.size
        have hsz1 : w.heap.size ≤ w1.heap.size := HB1.out.size
        cases hop : op with
        | nil =>
          subst hop
          have hr : R = (out, 0, 0) := heq.symm
          subst hr
          clear heq HP HSc
          go_wp2
          refine bodyPost_ret (v := .tuple #[.slice al out.length cl, .int .i64 0, .int .i64 0]) (by simp [results, Try.results20, go_sem]) rfl ⟨⟨_, rfl, own_base HI.out.ol hsz1⟩, HBw.out⟩
        | cons j js =>
          subst hop
          obtain ⟨i, hi⟩ : ∃ i, (j :: js).getLast? = some i := ⟨_, List.getLast?_eq_some_getLast (by simp)⟩
          have him : i ∈ j :: js := List.mem_of_getLast? hi
          have hil := HI.out.st i him
          have hi2 : (j :: js)[js.length]? = some i := by
            rw [← hi, List.getLast?_eq_getElem?]
            rfl
          obtain ⟨y, hy⟩ := mem_at (l := out) (k := i) hil
          have hr : R = ([], 5, y.po) := by
            rw [← heq]
            exact prun_open hi hy
          obtain ⟨ao', co', eo, hco⟩ := own_rows intE_len HI.out.oo (by decide)
          obtain ⟨bo, e1, _, hbo2, hco⟩ := hco (by simp)
          have x0 := hco js.length i hi2 0 (by decide)
          obtain ⟨al', cl', el, hcl⟩ := own_rows ndrow_len HI.out.ol (by decide)
          obtain ⟨bl, e2, _, hbl2, hcl⟩ := hcl (by omega)
          have x1 := hcl i y hy 3 (by decide)
          injection eo with eo1 _ eo3
          injection el with el1 _ el3
          rw [e1] at eo1
          rw [e2] at el1
          subst eo1
          subst el1
          subst hr
          have hcap := own_cap HI.out.oo
          rw [List.length_cons] at hcap hbp
          have hjs : js.length ≤ 19 := by omega
          dsimp only [intE, ndrow, List.getElem?_cons_zero, List.getElem?_cons_succ] at x0 x1
          rw [Nat.zero_add, Nat.mul_one, Nat.add_zero] at x0
          rw [Nat.zero_add] at x1
          have hio : (i : Int) < (out.length : Int) := by omega
          have hi0 : (0 : Int) ≤ (i : Int) := by omega
          clear heq HP HSc hco hcl hi hi2 him hy
          go_wp2
          go_quiet (fail)
          go_wp2
          refine bodyPost_ret (v := .tuple #[.slice none 0 0, .int .i64 5, .int .i64 y.po]) (by simp [results, Try.results20, go_sem]) rfl ⟨⟨_, rfl, World.ownsRow_nil _ _ _ _⟩, by have h9 := HBw.out; have h10 := h9.size; (repeat' (first | with_reducible exact Below.refl _ _ | with_reducible assumption | with_reducible refine Below.drew ?_ | with_reducible refine below_drewN' ?_ _ | with_reducible refine Below.alloc ?_ ?_ _ | with_reducible refine Below.setCell ?_ ?_ _ | with_reducible refine below_step (by assumption) ?_ ?_ | omega | (simp; done) | (simp; omega)))⟩
  · have n1 : (er != 0) = true := by simpa using he
    have hP : R = ([], er, pe) := by rw [hP, if_neg he]
    subst hP
    clear hf hq hR he
    go_enter Try.func20, Try.ntmps20
    go_wp2_with ((go_at_call 34; (with_reducible refine (HSc.out _).mono ?_); rintro e9 w1 ⟨⟨v, rfl, ho⟩, hb⟩; (dsimp only at ho); (obtain ⟨x1, y1, rfl, hnn, hT⟩ := own_slice ho); have HB1 := Lib.hid hb; clear ho hb hT hnn))
    refine bodyPost_ret (v := .tuple #[.slice none 0 0, .int .i64 er, .int .i64 pe]) (by simp [results, Try.results20, go_sem]) rfl ⟨⟨_, rfl, World.ownsRow_nil _ _ _ _⟩, HB1.out⟩
end Go.Proofs.Ytlndfognkkobaaa
