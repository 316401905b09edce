/-
  A list of options that came in; the contract of triremelaw21.known.
-/
import Derived.Test.YtfaeebbanphbgabExp5
import Derived.Test.YtfaeebbanphbgabOpen
namespace Go.Proofs.Ytfaeebbanphbgab
open Go.ChangeShapes Go.WideShapes Go.ChangeAt Go.RowKit
set_option linter.unusedVariables false

theorem Try.cells27 : Try.prog.cellsOf 27 = 6 := by kernel_rfl
theorem Try.cells3 : Try.prog.cellsOf 3 = 1 := by kernel_rfl
theorem Try.cells9 : Try.prog.cellsOf 9 = 1 := by kernel_rfl
theorem Try.cells25 : Try.prog.cellsOf 25 = 1 := by kernel_rfl

theorem opt_cells {H : Type} {enc : TypeId × Value → H} {W : World} {fuel : Nat} {cs : List Value} {y : DataW H × List MemPlace} (hl : cs.length = 6)
    (h : DataW.trod enc Try.prog W 0 (fun _ => true) true fuel 27 cs = some y) :
    ∃ o : Opt, cs = [.string o.g, .int .i64 o.c, .slice o.s o.l o.k, .int .i64 o.w, .int .i64 o.p, .int .i64 o.r] := by
  obtain ⟨xs, n, _, hx, _, hlen, hg⟩ := DataW.trod_struct Try.underlying27 h
  match cs, hl with
  | [c0, c1, c2, c3, c4, c5], _ =>
    match xs, hlen with
    | [y0, y1, y2, y3, y4, y5], _ =>
      have g0 := hg 0 _ rfl
      have g1 := hg 1 _ rfl
      have g2 := hg 2 _ rfl
      have g3 := hg 3 _ rfl
      have g4 := hg 4 _ rfl
      have g5 := hg 5 _ rfl
      obtain ⟨s0, q0, _⟩ := DataW.trod_string Try.underlying9 g0
      obtain ⟨n1, q1, _⟩ := DataW.trod_int Try.underlying3 g1
      obtain ⟨a2, l2, k2, q2⟩ := Go.Joins.slice_form Try.underlying25 g2
      obtain ⟨n3, q3, _⟩ := DataW.trod_int Try.underlying3 g3
      obtain ⟨n4, q4, _⟩ := DataW.trod_int Try.underlying3 g4
      obtain ⟨n5, q5, _⟩ := DataW.trod_int Try.underlying3 g5
      simp [Try.cells3, Try.cells9, Try.cells25] at q0 q1 q2 q3 q4 q5
      exact ⟨⟨s0, n1, a2, l2, k2, n3, n4, n5⟩, by rw [q0, q1, q2, q3, q4, q5]⟩

theorem open_opts {H : Type} {enc : TypeId × Value → H} {W : World} {base : Nat} {v : Value} {d : DataW H} {p : List MemPlace}
    (hv : Value.okWide Try.prog W .any base 22 v) (h : DataW.Trod enc Try.prog W 0 (fun _ => true) true 22 v d p) :
    (∃ sp cap, v = .slice sp 0 cap) ∨ ∃ (b off n cap : Nat) (D : Nat → Opt), v = .slice (some ⟨b, off, none⟩) n cap ∧ 0 < n ∧ n ≤ cap ∧ cap ≤ maxLen ∧ b < W.heap.size ∧ Opts W b off n D := by
  rcases open_rows Try.underlying22 Try.cells27 (by decide) hv h with rfl | ⟨a, cap, rfl⟩ | ⟨b, off, n, cap, rfl, hn, hnc, hcm, hb, hr⟩
  · exact .inl ⟨_, _, rfl⟩
  · exact .inl ⟨_, _, rfl⟩
  · right
    have hD : ∀ i, ∃ o : Opt, i < n → ∀ j, j < 6 → W.cell? ⟨b, off + i * 6 + j, none⟩ = [Value.string o.g, .int .i64 o.c, .slice o.s o.l o.k, .int .i64 o.w, .int .i64 o.p, .int .i64 o.r][j]? := by
      intro i
      by_cases hi : i < n
      · obtain ⟨cs, hl, hc, fuel, y, hy⟩ := hr i hi
        obtain ⟨o, rfl⟩ := opt_cells hl hy
        exact ⟨o, fun _ => hc⟩
      · exact ⟨⟨ByteArray.empty, 0, none, 0, 0, 0, 0, 0⟩, fun h => absurd h hi⟩
    obtain ⟨D, hD⟩ := Classical.axiomOfChoice hD
    exact ⟨b, off, n, cap, D, rfl, hn, hnc, hcm, hb, ⟨fun i hi => hD i hi 0 (by decide), fun i hi => hD i hi 1 (by decide), fun i hi => hD i hi 2 (by decide), fun i hi => hD i hi 3 (by decide), fun i hi => hD i hi 4 (by decide), fun i hi => hD i hi 5 (by decide)⟩⟩

theorem open_opt {H : Type} {enc : TypeId × Value → H} {W : World} {base : Nat} {v : Value} {d : DataW H} {p : List MemPlace}
    (hv : Value.okWide Try.prog W .any base 27 v) (h : DataW.Trod enc Try.prog W 0 (fun _ => true) true 27 v d p) :
    ∃ o : Opt, v = .agg #[.string o.g, .int .i64 o.c, .slice o.s o.l o.k, .int .i64 o.w, .int .i64 o.p, .int .i64 o.r] := by
  obtain ⟨cs, rfl, hsz⟩ := okWide_struct Try.underlying27 hv
  rw [Try.cells27] at hsz
  obtain ⟨fuel, hf⟩ := h
  obtain ⟨l⟩ := cs
  obtain ⟨o, ho⟩ := opt_cells (cs := l) hsz hf
  exact ⟨o, by rw [ho]⟩

/-- A list of options at a slice's place. -/
def OptsAt (w : World) (sp : Option Addr) (n : Nat) (D : Nat → Opt) : Prop := n = 0 ∨ ∃ b off, sp = some ⟨b, off, none⟩ ∧ b < w.heap.size ∧ Opts w b off n D

theorem OptsAt.zero (w : World) (sp : Option Addr) (D : Nat → Opt) : OptsAt w sp 0 D := .inl rfl

theorem OptsAt.below {w w' : World} {sp : Option Addr} {n : Nat} {D : Nat → Opt} (h : OptsAt w sp n D) (hb : Below w.heap.size w w') : OptsAt w' sp n D := by
  rcases h with h | ⟨b, off, rfl, hlt, ⟨o1, o2, o3, o4, o5, o6⟩⟩
  · exact .inl h
  · have hs := hb.size
    have hc := (bcell hb).1
    exact .inr ⟨b, off, rfl, by omega, ⟨fun i hi => (hc b _ hlt).trans (o1 i hi), fun i hi => (hc b _ hlt).trans (o2 i hi), fun i hi => (hc b _ hlt).trans (o3 i hi), fun i hi => (hc b _ hlt).trans (o4 i hi), fun i hi => (hc b _ hlt).trans (o5 i hi), fun i hi => (hc b _ hlt).trans (o6 i hi)⟩⟩

/-- Which one is chosen. -/
def chooseF (how seed : Int) (n : Nat) (D : Nat → Opt) : Int :=
  if n = 0 ∨ how < 1 ∨ 4 < how then -1 else if how = 4 then nextF seed % (n : Int) else (bst how D n : Nat)

theorem choose_any (sp : Option Addr) (n cap : Nat) (how seed : Int) (D : Nat → Opt) (w : World) (h : OptsAt w sp n D) (hm : n ≤ 1000000) :
    Calls Try.prog 11 #[.slice sp n cap, .int .i64 how, .int .i64 seed] w fun e w' => e = .returned (.int .i64 (chooseF how seed n D)) ∧ Below w.heap.size w w' := by
  unfold chooseF
  by_cases h0 : n = 0
  · subst h0
    rw [if_pos (.inl rfl)]
    exact choose_0 sp cap how seed w
  by_cases h1 : how < 1 ∨ 4 < how
  · rw [if_pos (.inr h1)]
    exact choose_no sp n cap how seed w (by omega) (by omega) (by omega) (by omega)
  rw [if_neg (by omega)]
  by_cases h4 : how = 4
  · subst h4
    rw [if_pos rfl]
    exact choose_4 sp n cap seed w (by omega) hm
  rw [if_neg h4]
  rcases h with h | ⟨b, off, rfl, hb, hD⟩
  · exact absurd h h0
  have h3 : how = 1 ∨ how = 2 ∨ how = 3 := by omega
  rcases h3 with rfl | rfl | rfl
  · exact choose_1 b off n cap seed D w hD (by omega) hb hm
  · exact choose_2 b off n cap seed D w hD (by omega) hb hm
  · exact choose_3 b off n cap seed D w hD (by omega) hb hm

theorem refchoose_all (sp : Option Addr) (n cap : Nat) (how seed : Int) (D : Nat → Opt) (w : World) (h : OptsAt w sp n D) (hm : n ≤ 1000000) :
    Calls Try.prog 12 #[.slice sp n cap, .int .i64 how, .int .i64 seed] w fun e w' => e = .returned (.int .i64 (chooseF how seed n D)) ∧ Below w.heap.size w w' := by
  unfold chooseF
  by_cases h0 : n = 0 ∨ how < 1 ∨ 4 < how
  · rw [if_pos h0]
    exact refchoose_no sp n cap how seed w hm h0
  rw [if_neg h0]
  by_cases h4 : how = 4
  · subst h4
    rw [if_pos rfl]
    exact refchoose_4 sp n cap seed w (by omega) hm
  rw [if_neg h4]
  rcases h with h | ⟨b, off, rfl, hb, hD⟩
  · exact absurd (.inl h) h0
  exact refchoose_any how b off n cap seed D w hD (by omega) hb hm (by omega) (by omega)

/-- The options of known. -/
def knownD (a : Option Addr) : Nat → Opt
  | 0 => ⟨⟨#[]⟩, 0, none, 0, 0, 300, 9, 5⟩
  | 1 => ⟨⟨#[]⟩, 0, a, 1, 1, 100, 9, 1⟩
  | _ => ⟨⟨#[]⟩, 0, none, 0, 0, 100, 10, 5⟩

theorem held_any {P : Program} {f : FuncId} {args : Array Value} {W : World} {n : Held W} {v : Value}
    (h : Calls P f args n.w fun e w' => e = .returned v ∧ n.w = w') : Calls P f args n.w fun e w' => e = .returned v ∧ ∃ m : Held W, w' = m.w :=
  h.mono fun _ _ ⟨he, hb⟩ => ⟨he, n, hb.symm⟩

set_option maxRecDepth 100000 in
set_option maxHeartbeats 4000000 in
theorem known_any (w : World) :
    Calls Try.prog 8 #[] w fun e w' => e = .returned (.bool true) ∧ Below w.heap.size w w' := by
  have a1 : chooseF 1 0 3 (knownD (some ⟨w.heap.size, 0, none⟩)) = 1 := rfl
  have a2 : chooseF 2 0 3 (knownD (some ⟨w.heap.size, 0, none⟩)) = 2 := rfl
  have a3 : chooseF 3 0 3 (knownD (some ⟨w.heap.size, 0, none⟩)) = 1 := rfl
  have a4 : chooseF 4 0 3 (knownD (some ⟨w.heap.size, 0, none⟩)) = 0 := rfl
  have a5 : chooseF 5 0 3 (knownD (some ⟨w.heap.size, 0, none⟩)) = -1 := rfl
  have a6 : chooseF 1 0 0 (knownD (some ⟨w.heap.size, 0, none⟩)) = -1 := rfl
  have a7 : nextF 0 = 12345 := rfl
  have a8 : betB 1 100 9 1 1 300 9 5 0 = true := rfl
  have a9 : betB 9 100 9 1 1 300 9 5 0 = false := rfl
  go_enter Try.func8, Try.ntmps8
  go_wp2_with fail
  have hO : OptsAt ((w.alloc (.cells #[.string ⟨#[97]⟩] 9)).alloc (.cells #[.string ⟨#[]⟩, .int .i64 0, .slice none 0 0, .int .i64 300, .int .i64 9, .int .i64 5, .string ⟨#[]⟩, .int .i64 0, .slice (some ⟨w.heap.size, 0, none⟩) 1 1, .int .i64 100, .int .i64 9, .int .i64 1, .string ⟨#[]⟩, .int .i64 0, .slice none 0 0, .int .i64 100, .int .i64 10, .int .i64 5] 27)) (some ⟨w.heap.size + 1, 0, none⟩) 3 (knownD (some ⟨w.heap.size, 0, none⟩)) := by
    refine .inr ⟨w.heap.size + 1, 0, rfl, by simp, ?_⟩
    constructor <;> (intro i hi; have hi3 : i = 0 ∨ i = 1 ∨ i = 2 := (by omega); rcases hi3 with rfl | rfl | rfl <;> simp [go_sem, knownD])
  have HO := Lib.hid hO
  clear hO
  have hcH := held_cell
  refine region_below (by kernel_rfl) (by kernel_rfl) ?_
  repeat
    ((with_reducible refine wpQuiet_step (fun K hK => ?_))
     go_simp
     first
       | ((with_reducible refine hK _ ?_); clear hK K)
       | (apply Exists.intro
          (with_reducible refine ⟨fun n => ?_, hK _ ?_⟩)
          (first | (go_at_call 11; first | (with_reducible exact held_calls (choose_any (some ⟨w.heap.size + 1, 0, none⟩) 3 3 _ _ _ _ (HO.out.below n.below) (by decide))) | (with_reducible exact held_calls (choose_any none 0 0 _ _ (knownD (some ⟨w.heap.size, 0, none⟩)) _ (OptsAt.zero _ _ _) (by decide)))) | (go_at_call 13; exact held_any (next_any _ _)) | (go_at_call 9; exact held_calls (better_any _ _ _ _ _ _ _ _ _ _ _ _ _ _ _ _ _ _)))
          clear hK K))
  with_reducible refine wpQuiet_nil ?_
  intro w1 hw2
  clear hcH
  obtain ⟨⟨_, hb1⟩, rfl⟩ := hw2
  (try dsimp only)
  obtain ⟨hc1, hf1⟩ := bcell hb1
  have hz1 := hb1.size
  (try simp at hz1)
  go_wp2
  go_ret
  exact ⟨rfl, by (repeat' (first | with_reducible exact Below.refl _ _ | with_reducible assumption | with_reducible refine Below.drew ?_ | with_reducible refine below_drewN' ?_ _ | with_reducible refine Below.alloc ?_ ?_ _ | with_reducible refine Below.setCell ?_ ?_ _ | with_reducible refine below_step (by assumption) ?_ ?_ | omega | (simp; done) | (simp; omega)))⟩
end Go.Proofs.Ytfaeebbanphbgab
