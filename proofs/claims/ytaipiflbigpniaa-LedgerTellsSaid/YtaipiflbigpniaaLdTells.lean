/-
  LedgerTells: the document's ledger, the program's beside it, and the law.
-/
import Derived.Test.YtaipiflbigpniaaLdG0
import Derived.Test.YtaipiflbigpniaaLdL
import Derived.Test.YtaipiflbigpniaaGRight
import Derived.Test.YtaipiflbigpniaaLdTT
import Derived.Test.YtaipiflbigpniaaFilt
import Derived.Test.YtaipiflbigpniaaGFind
import Derived.Test.YtaipiflbigpniaaLdFp
import Derived.Test.YtaipiflbigpniaaLdO2
import Derived.Test.YtaipiflbigpniaaFrame

/-
  The accounts behind given ticks, exactly.
-/
namespace Go.Proofs.Ytaipiflbigpniaa
open Go.RowKit
set_option linter.unusedVariables false
set_option linter.unusedSimpArgs false

/-- All that counted, and the most that counted in one tick. -/
def sumC (X : List Sl) (s : ByteArray) : Nat := X.foldl (fun n x => n + cntI x.L s) 0
def maxC (X : List Sl) (s : ByteArray) : Nat := X.foldl (fun n x => max n (cntI x.L s)) 0
theorem sumC_snoc (X : List Sl) (x : Sl) (s : ByteArray) : sumC (X ++ [x]) s = sumC X s + cntI x.L s := by
  unfold sumC
  rw [List.foldl_append]
  rfl
theorem maxC_snoc (X : List Sl) (x : Sl) (s : ByteArray) : maxC (X ++ [x]) s = max (maxC X s) (cntI x.L s) := by
  unfold maxC
  rw [List.foldl_append]
  rfl
theorem sumC_take {X : List Sl} {k : Nat} {x : Sl} (h : X[k]? = some x) (s : ByteArray) : sumC (X.take (k + 1)) s = sumC (X.take k) s + cntI x.L s := by rw [take_at h, sumC_snoc]
theorem maxC_take {X : List Sl} {k : Nat} {x : Sl} (h : X[k]? = some x) (s : ByteArray) : maxC (X.take (k + 1)) s = max (maxC (X.take k) s) (cntI x.L s) := by rw [take_at h, maxC_snoc]
theorem sumC_bd {m : Nat} (s : ByteArray) : ∀ (k : Nat) (X : List Sl), X.length = k → (∀ x ∈ X, x.L.length ≤ m) → sumC X s ≤ k * maxC X s ∧ maxC X s ≤ m := by
  intro k
  induction k with
  | zero =>
    intro X h _
    obtain rfl := List.eq_nil_of_length_eq_zero h
    exact ⟨Nat.zero_le _, Nat.zero_le _⟩
  | succ k ih =>
    intro X h hm
    obtain ⟨Y, x, rfl⟩ : ∃ Y x, X = Y ++ [x] := by
      rcases List.eq_nil_or_concat X with e | ⟨Y, x, e⟩
      · subst e; simp at h
      · exact ⟨Y, x, by simpa using e⟩
    have hY : Y.length = k := by simpa using h
    obtain ⟨i1, i2⟩ := ih Y hY (fun y hy => hm y (List.mem_append_left _ hy))
    have hx := hm x (List.mem_append_right _ (by simp))
    have hc := cnt_le x.L s
    rw [sumC_snoc, maxC_snoc]
    have h6 : k * maxC Y s ≤ k * max (maxC Y s) (cntI x.L s) := Nat.mul_le_mul_left _ (Nat.le_max_left _ _)
    rw [Nat.succ_mul]
    omega
def acX (X : List Sl) (g : Gp) : Ac := ⟨g.nm, g.pr, (sumC X g.nm : Int), (maxC X g.nm : Int)⟩
theorem acX_nil (l : List Gp) : l.map acN = l.map (acX []) := rfl
theorem acX_next (X : List Sl) (x : Sl) (l : List Gp) : (l.map (acX X)).map (addA x.L) = l.map (acX (X ++ [x])) := by
  rw [List.map_map]
  apply List.map_congr_left
  intro g _
  show (⟨g.nm, g.pr, (sumC X g.nm : Int) + (cntI x.L g.nm : Int), max (maxC X g.nm : Int) (cntI x.L g.nm : Int)⟩ : Ac) = acX (X ++ [x]) g
  unfold acX
  rw [sumC_snoc, maxC_snoc]
  congr 1
  · omega
/-- The first of a name. -/
theorem findA_shift (s : ByteArray) : ∀ (l : List Gp) (i j : Int), (findA l s i = -1 ∧ findA l s j = -1) ∨ ∃ k : Nat, findA l s i = i + k ∧ findA l s j = j + k
  | [], _, _ => .inl ⟨rfl, rfl⟩
  | g :: l, i, j => by
    unfold findA
    by_cases h : g.nm = s
    · rw [if_pos h, if_pos h]
      exact .inr ⟨0, by simp, by simp⟩
    · rw [if_neg h, if_neg h]
      rcases findA_shift s l (i + 1) (j + 1) with ⟨h1, h2⟩ | ⟨k, h1, h2⟩
      · exact .inl ⟨h1, h2⟩
      · exact .inr ⟨k + 1, by rw [h1]; omega, by rw [h2]; omega⟩
theorem findA_ac (X : List Sl) (s : ByteArray) : ∀ (l : List Gp) (k : Nat), findA l s 0 = (k : Int) → ∃ g, l[k]? = some g ∧ g.nm = s ∧ findAc (l.map (acX X)) s = acX X g
  | [], k, h => by
    have : (-1 : Int) = k := h
    omega
  | g :: l, k, h => by
    unfold findA at h
    by_cases hg : g.nm = s
    · rw [if_pos hg] at h
      obtain rfl : k = 0 := by omega
      exact ⟨g, rfl, hg, if_pos hg⟩
    · rw [if_neg hg] at h
      rcases findA_shift s l (0 + 1) 0 with ⟨h1, _⟩ | ⟨j, h1, h2⟩
      · rw [h1] at h
        omega
      · rw [h1] at h
        obtain rfl : k = j + 1 := by omega
        obtain ⟨x, hx, hs, hf⟩ := findA_ac X s l j (by rw [h2]; omega)
        exact ⟨x, by simpa using hx, hs, (show (if (acX X g).nm = s then _ else findAc (l.map (acX X)) s) = _ from (if_neg hg).trans hf)⟩
theorem right_find {l : List Gp} (h : rightGs l = true) {k : Nat} {g : Gp} (hk : l[k]? = some g) : findA l g.nm 0 = (k : Int) := by
  have hok : okG l k = true := by
    cases e : okG l k with
    | true => rfl
    | false =>
      rw [rightGs_bad (lt_at hk) e] at h
      cases h
  rw [okG_at hk, Bool.and_eq_true, decide_eq_true_eq] at hok
  exact hok.2
end Go.Proofs.Ytaipiflbigpniaa

/-
  The document's ledger: what it holds; counts; Add, All, Peak, Sum.
-/
namespace Go.Proofs.Ytaipiflbigpniaa
open Go.RowKit
set_option linter.unusedVariables false
set_option linter.unusedSimpArgs false

theorem ltx_eq {a b : ByteArray} (h : a = b) : (a.toList == b.toList) = true := by rw [h]; simp
theorem ltx_ne {a b : ByteArray} (h : ¬ a = b) : (a.toList == b.toList) = false := by
  rw [beq_eq_false_iff_ne]
  intro e
  rw [ByteArray.toList_eq, ByteArray.toList_eq] at e
  exact h (ByteArray.ext (Array.toList_inj.1 e))
theorem cntI_take {L : List Ins} {k : Nat} {x : Ins} (h : L[k]? = some x) (s : ByteArray) : cntI (L.take (k + 1)) s = cntI (L.take k) s + if x.gp = s ∧ x.st ≠ 3 then 1 else 0 := by
  unfold cntI
  rw [take_at h, List.countP_append, List.countP_cons, List.countP_nil]
  by_cases e : x.gp = s <;> by_cases e2 : x.st = 3 <;> simp [e, e2]

set_option maxRecDepth 100000 in
set_option maxHeartbeats 4000000 in
theorem rcount_any (c : Option Addr) (kc : Nat) (L : List Ins) (s : ByteArray) (w : World) (hI : InsL w c L) (hL : L.length ≤ 1000) :
    Calls Try.prog 32 #[.slice c L.length kc, .string s] w fun e w' => e = .returned (.int .i64 (cntI L s)) ∧ w' = w := by
  have HI := Lib.hid hI
  obtain ⟨n, hn⟩ : ∃ n, L.length = n := ⟨_, rfl⟩
  have Hn := Lib.hid hn
  rw [hn] at hL ⊢
  clear hI hn
  go_enter Try.func32, Try.ntmps32
  go_wp2
  go_loopw [5, 6] (fun vn vi wr => ∃ k : Nat, k ≤ n ∧ vi = .int .i64 k ∧ vn = .int .i64 (cntI (L.take k) s) ∧ wr = w) (fun _ vi _ => n - (intOf vi).toNat)
  case atStart => exact ⟨0, Nat.zero_le _, rfl, rfl, rfl⟩
  case round =>
    obtain ⟨k, hk, rfl, rfl, rfl⟩ := hrel
    by_cases hlt : k < n
    · obtain ⟨x, hx⟩ := mem_at (l := L) (k := k) (by rw [Hn.out]; exact hlt)
      obtain ⟨b, o, rfl, hb, hc⟩ := HI.out (by rw [Hn.out]; omega)
      obtain ⟨d0, d1, d2, d3, d4⟩ := irow_cells (hc k x hx)
      have hst := Lib.hid (cntI_take hx s)
      have hcl := cnt_le (L.take k) s
      have h8 : (L.take k).length ≤ k := List.length_take_le _ _
      obtain ⟨z, hz⟩ : ∃ z, cntI (L.take k) s = z := ⟨_, rfl⟩
      rw [hz] at hcl hst ⊢
      have Hz := Lib.hid hz
      clear hc hx hz
      by_cases hg : x.gp = s
      · have k1 := ltx_eq hg
        by_cases h3 : x.st = 3
        · have k3 : (x.st != 3) = false := by rw [h3]; rfl
          have He := Lib.hid (show cntI (L.take (k + 1)) s = z from by rw [hst.out, if_neg (fun h => h.2 h3)]; rfl)
          clear h3 hg
          go_wp2
          go_roundw
          case rel => exact ⟨k + 1, by omega, by go_num, by rw [He.out], trivial⟩
          case measure => simp [intOf]; omega
        · have k3 : (x.st != 3) = true := by simpa using h3
          have He := Lib.hid (show cntI (L.take (k + 1)) s = z + 1 from by rw [hst.out, if_pos ⟨hg, h3⟩])
          clear h3 hg
          go_wp2
          go_roundw
          case rel => exact ⟨k + 1, by omega, by go_num, by rw [He.out]; go_num, trivial⟩
          case measure => simp [intOf]; omega
      · have k1 := ltx_ne hg
        have He := Lib.hid (show cntI (L.take (k + 1)) s = z from by rw [hst.out, if_neg (fun h => hg h.1)]; rfl)
        clear hg
        go_wp2
        go_roundw
        case rel => exact ⟨k + 1, by omega, by go_num, by rw [He.out], trivial⟩
        case measure => simp [intOf]; omega
    · obtain rfl : k = n := by omega
      have He := Lib.hid (show cntI (L.take k) s = cntI L s by rw [List.take_of_length_le (Nat.le_of_eq Hn.out)])
      go_wp2
      go_ret
      exact ⟨by rw [← He.out]; rfl, rfl⟩

/-- The document's ledger. -/
structure RL (w : World) (base p : Nat) (ga : Option Addr) (gn gk : Nat) (X : List Sl) (v : Value) : Prop where
  row : Blk w p 62 [.slice ga gn gk, v]
  own : w.ownsRow base 35 1 v X.length (X.flatMap slr)
  ne : v.ownBlock ≠ some p
  hp : base ≤ p
section
variable {w w' : World} {base p gn gk : Nat} {ga : Option Addr} {X : List Sl} {v : Value}
theorem RL.only {S : List Nat} (h : RL w base p ga gn gk X v) (ho : Only S w w') (hp : p ∉ S) (hv : ∀ g, v.ownBlock = some g → g ∉ S) : RL w' base p ga gn gk X v :=
  ⟨h.row.only ho hp, own_same h.own fun g hg => ho.block g (own_lt h.own hg).2 (hv g hg), h.ne, h.hp⟩
theorem RL.below (h : RL w base p ga gn gk X v) (hb : Below w.heap.size w w') : RL w' base p ga gn gk X v := h.only (Only.of_below (S := []) hb) (by simp) (fun _ _ => by simp)
theorem RL.rows (h : RL w base p ga gn gk X v) : ∃ a k, v = .slice a X.length k ∧ NilOk a X.length k ∧ SlL w a X := by
  obtain ⟨a, k, e, hN, hR⟩ := IsL.of_own slr_len (by decide) h.own
  exact ⟨a, k, e, hN, hR⟩
end
theorem slr_one (x : Sl) : ∀ u ∈ slr x, u.oneCell' = true := by
  intro u hu
  obtain rfl : u = .slice x.c x.L.length x.k := by simpa [slr] using hu
  rfl
theorem Try.info35 : (Try.prog.info? 35).map (fun i => (i.zero, i.size, i.bytes)) = some (some (.slice none 0 0), 1, 24) := by kernel_rfl

set_option maxRecDepth 100000 in
set_option maxHeartbeats 4000000 in
theorem radd_any (base p : Nat) (ga : Option Addr) (gn gk : Nat) (X : List Sl) (v : Value) (x : Sl) (w : World) (h : RL w base p ga gn gk X v) (hX : X.length ≤ 1000) :
    Calls Try.prog 13 #[.pointer (some ⟨p, 0, none⟩), .slice x.c x.L.length x.k] w fun e w' => e = .returned (.tuple #[]) ∧ ∃ v', RL w' base p ga gn gk (X ++ [x]) v' ∧ Only [p] w w' := by
  have Hh := Lib.hid h
  obtain ⟨a, k, rfl, hN, hR⟩ := h.rows
  have HR := Lib.hid hR
  have HN := Lib.hid hN
  have c1 := h.row.cell 1
  dsimp only [List.getElem?_cons_zero, List.getElem?_cons_succ] at c1
  have f1 := h.row.frozen 1
  have hp := h.row.lt
  obtain ⟨i0, hi, hz0, hz1, hz2⟩ := info_parts Try.info35
  have Hi := Lib.hid hi
  have Hz0 := Lib.hid hz0
  have Hz1 := Lib.hid hz1
  have Hz2 := Lib.hid hz2
  clear hi hz0 hz1 hz2
  obtain ⟨n, hn⟩ : ∃ n, X.length = n := ⟨_, rfl⟩
  have Hn := Lib.hid hn
  have Hlen := Lib.hid (show (X.flatMap slr).length = n * 1 by rw [rows_length slr 1 slr_len, hn])
  have Hok := Lib.hid (show a = none → n = 0 ∧ k = 0 from fun e => by have := hN e; rwa [hn] at this)
  rw [hn] at c1 hX
  obtain ⟨xl, hxl⟩ : ∃ xl, x.L.length = xl := ⟨_, rfl⟩
  have Hxr := Lib.hid (show slr x = [.slice x.c xl x.k] by unfold slr; rw [hxl])
  rw [hxl]
  have hc3 : 0 + n ≤ maxLen := by unfold maxLen; omega
  have hc4 : (0 + n) * 24 ≤ 140737488355328 := by omega
  have hc5 : n + 1 ≤ maxLen := by unfold maxLen; omega
  have hc6 : (n + 1) * 24 ≤ 140737488355328 := by omega
  obtain ⟨N', hN'⟩ : ∃ N', (X ++ [x]).length = N' := ⟨_, rfl⟩
  have HN' := Lib.hid hN'
  have HMl := Lib.hid (show n + 1 = (X ++ [x]).length by rw [List.length_append, hn]; rfl)
  have HMf := Lib.hid (show X.flatMap slr ++ [.slice x.c xl x.k] = (X ++ [x]).flatMap slr by rw [← Hxr.out]; simp)
  clear hN'
  have HO0 := Lib.hid (World.ownsRow_nil w w.heap.size 35 1)
  clear h hR hN hn hxl
  go_enter Try.func13, Try.ntmps13
  go_wp2_with (first
    | (at_builtin; refine wpList_append_src rfl (.tmp 5) (.tmp 9) 23 rfl w.heap.size 35 i0 _ 1 24 Try.underlying23 Hi.out Hz0.out Hz1.out Hz2.out rfl (by decide) _ 0 [] rfl HO0.out a n k (X.flatMap slr) rfl Hlen.out (RowsAt.news slr_len HR.out) Hok.out (flat_ones slr_one X) hc3 hc4 (Nat.le_refl _) ?_; intro v1 w1 hown1 hgrow1; rw [Nat.zero_add, List.nil_append] at hown1; have hB1 := own_below HO0.out (Below.refl _ _) (Nat.le_refl _) hgrow1; have hz1 := hB1.size; have e1 : w1.cell? ⟨p, 1, none⟩ = some (.slice a n k) := (by rw [hB1.cell (p := ⟨p, 1, none⟩) hp]; exact c1); have l1 : p < w1.heap.size := (by omega); have HO1 := Lib.hid hown1; clear hown1 hgrow1)
    | (at_builtin; refine wpList_append_own _ rfl (.tmp 11) (.tmp 13) 23 rfl w.heap.size 35 i0 _ 1 24 Try.underlying23 Hi.out Hz0.out Hz1.out Hz2.out rfl (by decide) _ n (X.flatMap slr) rfl (HO1.out.alloc _) ⟨w1.heap.size, 0, none⟩ 1 1 [.slice x.c xl x.k] rfl rfl (news_at _ _ _) (fun u hu => slr_one x u (by rw [Hxr.out]; exact hu)) hc5 hc6 (le_alloc hz1 _) ?_; intro v2 w2 hown2 hgrow2 _; have hB2 := own_below (HO1.out.alloc _) (hB1.alloc hz1 _) (le_alloc hz1 _) hgrow2; have hz2 := hB2.size; have e2 : w2.cell? ⟨p, 1, none⟩ = some (.slice a n k) := (by rw [hB2.cell (p := ⟨p, 1, none⟩) hp]; exact c1); have f2 : w2.frozen? ⟨p, 1, none⟩ = false := (by rw [(bcell hB2).2 p 1 hp]; exact f1); have l2 : p < w2.heap.size := (by omega); rw [HMl.out, HMf.out] at hown2; obtain ⟨sp2, cap2, ev2, _⟩ := own_rows slr_len hown2 (by decide); rw [HN'.out] at ev2; subst ev2; have HO2 := Lib.hid hown2; clear hown2 hgrow2))
  go_end0
  have hpb := Hh.out.hp
  refine ⟨rfl, _, ⟨(Hh.out.row.below hB2).set 1 _, ?_, ?_, Hh.out.hp⟩, (Only.of_below hB2).setCell (.inl (by simp)) _⟩
  · exact own_same (own_base3 HO2.out (by omega)) fun q hq => Below.heap_setCell _ _ _ _ (fun e => by have h1 := (own_lt HO2.out hq).1; simp only at e; omega)
  · intro hq
    have h1 := (own_lt HO2.out hq).1
    omega
end Go.Proofs.Ytaipiflbigpniaa

/-
  The document's ledger: All, Peak, Sum, Total, New.
-/
namespace Go.Proofs.Ytaipiflbigpniaa
open Go.RowKit
set_option linter.unusedVariables false
set_option linter.unusedSimpArgs false

theorem sumC_le (X : List Sl) (s : ByteArray) (h : ∀ x ∈ X, x.L.length ≤ 60) (hX : X.length ≤ 30) (k : Nat) : sumC (X.take k) s ≤ 1800 ∧ maxC (X.take k) s ≤ 60 := by
  have h1 := sumC_bd (m := 60) s (X.take k).length (X.take k) rfl (fun x hx => h x (List.mem_of_mem_take hx))
  have h2 : (X.take k).length ≤ 30 := Nat.le_trans (List.length_take_le' _ _) hX
  have h3 : (X.take k).length * maxC (X.take k) s ≤ 30 * 60 := Nat.mul_le_mul h2 h1.2
  omega
/-- What the document's ledger reads. -/
structure RG (w : World) (base p : Nat) (ga : Option Addr) (l : List Gp) (gk : Nat) (X : List Sl) (v : Value) : Prop where
  t : RL w base p ga l.length gk X v
  g : GpL w ga l
  x : ∀ x ∈ X, InsL w x.c x.L ∧ x.L.length ≤ 60
  n : X.length ≤ 30
  m : l.length ≤ 1000
theorem RG.below {w w' : World} {base p gk : Nat} {ga : Option Addr} {l : List Gp} {X : List Sl} {v : Value} (h : RG w base p ga l gk X v) (hb : Below w.heap.size w w') : RG w' base p ga l gk X v :=
  ⟨h.t.below hb, h.g.mono hb, fun x hx => ⟨(h.x x hx).1.mono hb, (h.x x hx).2⟩, h.n, h.m⟩

set_option maxRecDepth 100000 in
set_option maxHeartbeats 4000000 in
theorem rall_any (base p : Nat) (ga : Option Addr) (l : List Gp) (gk : Nat) (X : List Sl) (v : Value) (s : ByteArray) (k0 : Nat) (w : World) (h : RG w base p ga l gk X v) (hf : findA l s 0 = (k0 : Int)) :
    Calls Try.prog 20 #[.pointer (some ⟨p, 0, none⟩), .string s] w fun e w' => e = .returned (.int .i64 (sumC X s)) ∧ Below w.heap.size w w' := by
  have Hh := Lib.hid h
  obtain ⟨a, kc, rfl, hN, hR⟩ := h.t.rows
  have HR := Lib.hid hR
  have c0 := h.t.row.cell 0
  have c1 := h.t.row.cell 1
  dsimp only [List.getElem?_cons_zero, List.getElem?_cons_succ] at c0 c1
  have hp := h.t.row.lt
  have HX := Lib.hid (fun k => sumC_le X s (fun x hx => (h.x x hx).2) h.n k)
  have HFi := Lib.hid (fun V (hb : Below w.heap.size w V) => show Calls Try.prog 31 #[.slice ga l.length gk, .string s] V (fun e w' => e = .returned (.int .i64 (k0 : Int)) ∧ Below V.heap.size V w') from by (have h9 := reffind_any ga l gk s V (h.g.mono hb) (by have := h.m; unfold maxLen; omega)); rw [hf] at h9; exact h9)
  have HCo := Lib.hid (fun V (hb : Below w.heap.size w V) (x : Sl) (hx : x ∈ X) => rcount_any x.c x.k x.L s V ((h.x x hx).1.mono hb) (by have := (h.x x hx).2; omega))
  have hn30 := h.n
  obtain ⟨n, hn⟩ : ∃ n, X.length = n := ⟨_, rfl⟩
  have Hn := Lib.hid hn
  obtain ⟨gn, hgn⟩ : ∃ n, l.length = n := ⟨_, rfl⟩
  rw [hn] at c1 hn30
  rw [hgn] at c0 HFi
  have j0 : decide ((0 : Int) ≤ (k0 : Int)) = true := decide_eq_true (by omega)
  clear h hN hR hn hf hgn
  go_enter Try.func20, Try.ntmps20
  go_wp2
  go_loopw [5, 6] (fun vn vi wr => ∃ k : Nat, k ≤ n ∧ vi = .int .i64 k ∧ vn = .int .i64 (sumC (X.take k) s) ∧ Below w.heap.size w wr) (fun _ vi _ => n - (intOf vi).toNat)
  case atStart => exact ⟨0, Nat.zero_le _, rfl, rfl, by (repeat' (first | with_reducible exact Below.refl _ _ | with_reducible assumption | with_reducible refine Below.drew ?_ | with_reducible refine below_drewN' ?_ _ | with_reducible refine Below.alloc ?_ ?_ _ | with_reducible refine Below.setCell ?_ ?_ _ | with_reducible refine below_step (by assumption) ?_ ?_ | omega | (simp; done) | (simp; omega)))⟩
  case round =>
    obtain ⟨k, hk, rfl, rfl, hB⟩ := hrel
    have HB := Lib.hid hB
    have hbz := hB.size
    have d0 : wr.cell? ⟨p, 0, none⟩ = some (.slice ga gn gk) := by rw [hB.cell (p := ⟨p, 0, none⟩) hp]; exact c0
    have d1 : wr.cell? ⟨p, 1, none⟩ = some (.slice a n kc) := by rw [hB.cell (p := ⟨p, 1, none⟩) hp]; exact c1
    have hpr : p < wr.heap.size := by omega
    clear hB
    by_cases hlt : k < n
    · have j1 : decide ((k : Int) < (n : Int)) = true := decide_eq_true (by omega)
      obtain ⟨x, hx⟩ := mem_at (l := X) (k := k) (by rw [Hn.out]; exact hlt)
      obtain ⟨b, o, rfl, hb, hc⟩ := HR.out (by rw [Hn.out]; omega)
      have hxm := List.mem_of_getElem? hx
      have hx1 : w.cell? ⟨b, o + k, none⟩ = some (.slice x.c x.L.length x.k) := by have h9 := hc k x hx 0 (by decide); rw [Nat.mul_one, Nat.add_zero] at h9; exact h9
      have HSt := Lib.hid (sumC_take hx s)
      have hbd := HX.out k
      have hbd2 := HX.out (k + 1)
      have hcc := HCo.out
      obtain ⟨z, hz⟩ : ∃ z, sumC (X.take k) s = z := ⟨_, rfl⟩
      obtain ⟨cz, hcz⟩ : ∃ cz, cntI x.L s = cz := ⟨_, rfl⟩
      have hcl := cnt_le x.L s
      have HC1 := Lib.hid (fun V (hb : Below w.heap.size w V) => show Calls Try.prog 32 #[.slice x.c x.L.length x.k, .string s] V (fun e w' => e = .returned (.int .i64 (cz : Int)) ∧ w' = V) from by (have h9 := HCo.out V hb x hxm); rw [hcz] at h9; exact h9)
      have hx60 : x.L.length ≤ 60 := (Hh.out.x x hxm).2
      obtain ⟨xl, hxl⟩ : ∃ xl, x.L.length = xl := ⟨_, rfl⟩
      rw [hxl] at HC1 hx1 hcl hx60
      rw [hz, hcz] at HSt
      rw [hcz] at hcl
      rw [hz]
      (try rw [hz] at hbd)
      clear hc hx hz hcz hcc hxl hxm hbd2
      have d2 : wr.cell? ⟨b, o + k, none⟩ = some (.slice x.c xl x.k) := by rw [HB.out.cell (p := ⟨b, _, none⟩) hb]; exact hx1
      have hbr : b < wr.heap.size := by omega
      go_wp2_with (go_at_call 31; (with_reducible refine (HFi.out _ HB.out).mono ?_); rintro e w3 ⟨rfl, hb3⟩; have HB3 := Lib.hid (HB.out.trans (hb3.mono hbz)); have e1 : w3.cell? ⟨p, 1, none⟩ = some (.slice (some ⟨b, o, none⟩) n kc) := (by rw [hb3.cell (p := ⟨p, 1, none⟩) hpr]; exact d1); have e2 : w3.cell? ⟨b, o + k, none⟩ = some (.slice x.c xl x.k) := (by rw [hb3.cell (p := ⟨b, _, none⟩) hbr]; exact d2); have hz3 := hb3.size; have l3 : p < w3.heap.size := (by omega); have l4 : b < w3.heap.size := (by omega); clear hb3)
      go_wp2_with (go_at_call 32; (with_reducible refine (HC1.out _ HB3.out).mono ?_); rintro e w4 ⟨rfl, rfl⟩)
      go_roundw
      case rel => exact ⟨k + 1, by omega, by go_num, by rw [HSt.out]; go_num, HB3.out⟩
      case measure => simp [intOf]; omega
    · have j1 : decide ((k : Int) < (n : Int)) = false := decide_eq_false (by omega)
      have hkn : k = n := by omega
      have He := Lib.hid (show sumC (X.take k) s = sumC X s by rw [hkn, List.take_of_length_le (Nat.le_of_eq Hn.out)])
      clear hkn
      go_wp2
      go_ret
      exact ⟨by rw [← He.out]; rfl, by (have h9 := HB.out); (repeat' (first | with_reducible exact Below.refl _ _ | with_reducible assumption | with_reducible refine Below.drew ?_ | with_reducible refine below_drewN' ?_ _ | with_reducible refine Below.alloc ?_ ?_ _ | with_reducible refine Below.setCell ?_ ?_ _ | with_reducible refine below_step (by assumption) ?_ ?_ | omega | (simp; done) | (simp; omega)))⟩
set_option maxRecDepth 100000 in
      set_option maxHeartbeats 4000000 in
      theorem rpeak_any (base p : Nat) (ga : Option Addr) (l : List Gp) (gk : Nat) (X : List Sl) (v : Value) (s : ByteArray) (k0 : Nat) (w : World) (h : RG w base p ga l gk X v) (hf : findA l s 0 = (k0 : Int)) :
          Calls Try.prog 18 #[.pointer (some ⟨p, 0, none⟩), .string s] w fun e w' => e = .returned (.int .i64 (maxC X s)) ∧ Below w.heap.size w w' := by
        have Hh := Lib.hid h
        obtain ⟨a, kc, rfl, hN, hR⟩ := h.t.rows
        have HR := Lib.hid hR
        have c0 := h.t.row.cell 0
        have c1 := h.t.row.cell 1
        dsimp only [List.getElem?_cons_zero, List.getElem?_cons_succ] at c0 c1
        have hp := h.t.row.lt
        have HX := Lib.hid (fun k => sumC_le X s (fun x hx => (h.x x hx).2) h.n k)
        have HFi := Lib.hid (fun V (hb : Below w.heap.size w V) => show Calls Try.prog 31 #[.slice ga l.length gk, .string s] V (fun e w' => e = .returned (.int .i64 (k0 : Int)) ∧ Below V.heap.size V w') from by (have h9 := reffind_any ga l gk s V (h.g.mono hb) (by have := h.m; unfold maxLen; omega)); rw [hf] at h9; exact h9)
        have HCo := Lib.hid (fun V (hb : Below w.heap.size w V) (x : Sl) (hx : x ∈ X) => rcount_any x.c x.k x.L s V ((h.x x hx).1.mono hb) (by have := (h.x x hx).2; omega))
        have hn30 := h.n
        obtain ⟨n, hn⟩ : ∃ n, X.length = n := ⟨_, rfl⟩
        have Hn := Lib.hid hn
        obtain ⟨gn, hgn⟩ : ∃ n, l.length = n := ⟨_, rfl⟩
        rw [hn] at c1 hn30
        rw [hgn] at c0 HFi
        have j0 : decide ((0 : Int) ≤ (k0 : Int)) = true := decide_eq_true (by omega)
        clear h hN hR hn hf hgn
        go_enter Try.func18, Try.ntmps18
        go_wp2
        go_loopw [5, 6] (fun vn vi wr => ∃ k : Nat, k ≤ n ∧ vi = .int .i64 k ∧ vn = .int .i64 (maxC (X.take k) s) ∧ Below w.heap.size w wr) (fun _ vi _ => n - (intOf vi).toNat)
        case atStart => exact ⟨0, Nat.zero_le _, rfl, rfl, by (repeat' (first | with_reducible exact Below.refl _ _ | with_reducible assumption | with_reducible refine Below.drew ?_ | with_reducible refine below_drewN' ?_ _ | with_reducible refine Below.alloc ?_ ?_ _ | with_reducible refine Below.setCell ?_ ?_ _ | with_reducible refine below_step (by assumption) ?_ ?_ | omega | (simp; done) | (simp; omega)))⟩
        case round =>
          obtain ⟨k, hk, rfl, rfl, hB⟩ := hrel
          have HB := Lib.hid hB
          have hbz := hB.size
          have d0 : wr.cell? ⟨p, 0, none⟩ = some (.slice ga gn gk) := by rw [hB.cell (p := ⟨p, 0, none⟩) hp]; exact c0
          have d1 : wr.cell? ⟨p, 1, none⟩ = some (.slice a n kc) := by rw [hB.cell (p := ⟨p, 1, none⟩) hp]; exact c1
          have hpr : p < wr.heap.size := by omega
          clear hB
          by_cases hlt : k < n
          · have j1 : decide ((k : Int) < (n : Int)) = true := decide_eq_true (by omega)
            obtain ⟨x, hx⟩ := mem_at (l := X) (k := k) (by rw [Hn.out]; exact hlt)
            obtain ⟨b, o, rfl, hb, hc⟩ := HR.out (by rw [Hn.out]; omega)
            have hxm := List.mem_of_getElem? hx
            have hx1 : w.cell? ⟨b, o + k, none⟩ = some (.slice x.c x.L.length x.k) := by have h9 := hc k x hx 0 (by decide); rw [Nat.mul_one, Nat.add_zero] at h9; exact h9
            have HSt := Lib.hid (maxC_take hx s)
            have hbd := HX.out k
            have hbd2 := HX.out (k + 1)
            have hcc := HCo.out
            obtain ⟨z, hz⟩ : ∃ z, maxC (X.take k) s = z := ⟨_, rfl⟩
            obtain ⟨cz, hcz⟩ : ∃ cz, cntI x.L s = cz := ⟨_, rfl⟩
            have hcl := cnt_le x.L s
            have HC1 := Lib.hid (fun V (hb : Below w.heap.size w V) => show Calls Try.prog 32 #[.slice x.c x.L.length x.k, .string s] V (fun e w' => e = .returned (.int .i64 (cz : Int)) ∧ w' = V) from by (have h9 := HCo.out V hb x hxm); rw [hcz] at h9; exact h9)
            have hx60 : x.L.length ≤ 60 := (Hh.out.x x hxm).2
            obtain ⟨xl, hxl⟩ : ∃ xl, x.L.length = xl := ⟨_, rfl⟩
            rw [hxl] at HC1 hx1 hcl hx60
            rw [hz, hcz] at HSt
            rw [hcz] at hcl
            rw [hz]
            (try rw [hz] at hbd)
            clear hc hx hz hcz hcc hxl hxm hbd2
            have d2 : wr.cell? ⟨b, o + k, none⟩ = some (.slice x.c xl x.k) := by rw [HB.out.cell (p := ⟨b, _, none⟩) hb]; exact hx1
            have hbr : b < wr.heap.size := by omega
            go_wp2_with (go_at_call 31; (with_reducible refine (HFi.out _ HB.out).mono ?_); rintro e w3 ⟨rfl, hb3⟩; have HB3 := Lib.hid (HB.out.trans (hb3.mono hbz)); have e1 : w3.cell? ⟨p, 1, none⟩ = some (.slice (some ⟨b, o, none⟩) n kc) := (by rw [hb3.cell (p := ⟨p, 1, none⟩) hpr]; exact d1); have e2 : w3.cell? ⟨b, o + k, none⟩ = some (.slice x.c xl x.k) := (by rw [hb3.cell (p := ⟨b, _, none⟩) hbr]; exact d2); have hz3 := hb3.size; have l3 : p < w3.heap.size := (by omega); have l4 : b < w3.heap.size := (by omega); clear hb3)
            go_wp2_with (go_at_call 32; (with_reducible refine (HC1.out _ HB3.out).mono ?_); rintro e w4 ⟨rfl, rfl⟩)
            go_roundw
            case rel => exact ⟨k + 1, by omega, by go_num, by rw [HSt.out]; go_num, HB3.out⟩
            case measure => simp [intOf]; omega
          · have j1 : decide ((k : Int) < (n : Int)) = false := decide_eq_false (by omega)
            have hkn : k = n := by omega
            have He := Lib.hid (show maxC (X.take k) s = maxC X s by rw [hkn, List.take_of_length_le (Nat.le_of_eq Hn.out)])
            clear hkn
            go_wp2
            go_ret
            exact ⟨by rw [← He.out]; rfl, by (have h9 := HB.out); (repeat' (first | with_reducible exact Below.refl _ _ | with_reducible assumption | with_reducible refine Below.drew ?_ | with_reducible refine below_drewN' ?_ _ | with_reducible refine Below.alloc ?_ ?_ _ | with_reducible refine Below.setCell ?_ ?_ _ | with_reducible refine below_step (by assumption) ?_ ?_ | omega | (simp; done) | (simp; omega)))⟩
end Go.Proofs.Ytaipiflbigpniaa

/-
  The document's ledger: Sum, Total, New.
-/
namespace Go.Proofs.Ytaipiflbigpniaa
open Go.RowKit
set_option linter.unusedVariables false
set_option linter.unusedSimpArgs false

theorem min_step (p : Int) (j : Nat) (h : 0 ≤ p) : min (min (p * (j : Int)) 1125899906842624 + p) 1125899906842624 = min (p * ((j + 1 : Nat) : Int)) 1125899906842624 := by
  rw [Int.natCast_add, Int.mul_add]
  have h0 : p * ((1 : Nat) : Int) = p := by simp
  rw [h0]
  omega
theorem min_if (x : Int) : (if (1125899906842624 : Int) < x then 1125899906842624 else x) = min x 1125899906842624 := by split <;> omega
set_option maxRecDepth 100000 in
set_option maxHeartbeats 4000000 in
theorem rsum_any (base p : Nat) (ga : Option Addr) (l : List Gp) (gk : Nat) (X : List Sl) (v : Value) (s : ByteArray) (k0 : Nat) (g : Gp) (w : World) (h : RG w base p ga l gk X v) (hf : findA l s 0 = (k0 : Int)) (hg : l[k0]? = some g) (hp0 : 0 ≤ g.pr) (hp1 : g.pr ≤ 1125899906842624) :
    Calls Try.prog 16 #[.pointer (some ⟨p, 0, none⟩), .string s] w fun e w' => e = .returned (.int .i64 (min (g.pr * (sumC X s : Int)) 1125899906842624)) ∧ Below w.heap.size w w' := by
  have Hh := Lib.hid h
  have c0 := h.t.row.cell 0
  dsimp only [List.getElem?_cons_zero] at c0
  have hp := h.t.row.lt
  have HFi := Lib.hid (fun V (hb : Below w.heap.size w V) => show Calls Try.prog 31 #[.slice ga l.length gk, .string s] V (fun e w' => e = .returned (.int .i64 (k0 : Int)) ∧ Below V.heap.size V w') from by (have h9 := reffind_any ga l gk s V (h.g.mono hb) (by have := h.m; unfold maxLen; omega)); rw [hf] at h9; exact h9)
  obtain ⟨N, hN⟩ : ∃ N, sumC X s = N := ⟨_, rfl⟩
  have HAl := Lib.hid (fun V (hb : Below w.heap.size w V) => show Calls Try.prog 20 #[.pointer (some ⟨p, 0, none⟩), .string s] V (fun e w' => e = .returned (.int .i64 (N : Int)) ∧ Below V.heap.size V w') from by (have h9 := rall_any base p ga l gk X v s k0 V (h.below hb) hf); rw [hN] at h9; exact h9)
  have hNb : N ≤ 1800 := by
    have h9 := (sumC_le X s (fun x hx => (h.x x hx).2) h.n X.length).1
    rw [List.take_length, hN] at h9
    exact h9
  obtain ⟨gb, go, rfl, hgb, hgc⟩ := h.g (Nat.lt_of_le_of_lt (Nat.zero_le _) (lt_at hg))
  have hc13 := (grow_cells (hgc k0 g hg)).2.2.2.2.2.2.2.2.2.2.2.2.2.1
  have hkl := lt_at hg
  obtain ⟨gn, hgn⟩ : ∃ n, l.length = n := ⟨_, rfl⟩
  rw [hgn] at c0 HFi hkl
  obtain ⟨pr, hpr⟩ : ∃ z, g.pr = z := ⟨_, rfl⟩
  rw [hN]
  rw [hpr] at hc13 hp0 hp1 ⊢
  have HMs := Lib.hid (fun j => min_step pr j hp0)
  have j0 : decide ((k0 : Int) < 0) = false := decide_eq_false (by omega)
  clear h hf hg hN hgc hgn hpr
  go_enter Try.func16, Try.ntmps16
  go_wp2_with (first
    | (go_at_call 31; (with_reducible refine (HFi.out _ (Below.refl _ _)).mono ?_); rintro e w3 ⟨rfl, hb3⟩; have HB3 := Lib.hid hb3; clear hb3)
    | (go_at_call 20; (with_reducible refine (HAl.out _ HB3.out).mono ?_); rintro e w4 ⟨rfl, hb4⟩; have HB4 := Lib.hid (HB3.out.trans (hb4.mono HB3.out.size)); clear hb4))
  have d0 : w4.cell? ⟨p, 0, none⟩ = some (.slice (some ⟨gb, go, none⟩) gn gk) := by rw [HB4.out.cell (p := ⟨p, 0, none⟩) hp]; exact c0
  have d1 : w4.cell? ⟨gb, go + k0 * 15 + 13, none⟩ = some (.int .i64 pr) := by rw [HB4.out.cell (p := ⟨gb, _, none⟩) hgb]; exact hc13
  have l0 : p < w4.heap.size := Nat.lt_of_lt_of_le hp HB4.out.size
  have l1 : gb < w4.heap.size := Nat.lt_of_lt_of_le hgb HB4.out.size
  go_loopw [6, 8] (fun vs vi wr => ∃ j : Nat, j ≤ N ∧ vi = .int .i64 j ∧ vs = .int .i64 (min (pr * (j : Int)) 1125899906842624) ∧ wr = w4) (fun _ vi _ => N - (intOf vi).toNat)
  case atStart => exact ⟨0, Nat.zero_le _, rfl, (by rw [show pr * ((0 : Nat) : Int) = 0 by simp]; rfl), rfl⟩
  case round =>
    obtain ⟨j, hj, rfl, rfl, rfl⟩ := hrel
    have hst := Lib.hid (HMs.out j)
    have hb0 : 0 ≤ pr * (j : Int) := Int.mul_nonneg hp0 (by omega)
    obtain ⟨z, hz⟩ : ∃ z, min (pr * (j : Int)) 1125899906842624 = z := ⟨_, rfl⟩
    have hz0 : 0 ≤ z := by omega
    have hz1 : z ≤ 1125899906842624 := by omega
    have Hz := Lib.hid hz
    rw [hz] at hst ⊢
    clear hz hb0
    by_cases hlt : j < N
    · have hw : IntKind.i64.wrap (z + pr) = z + pr := lwrap_in (by omega) (by omega)
      go_wp2
      go_roundw
      case rel => exact ⟨j + 1, by omega, by go_num, by rw [← hst.out, ← min_if], trivial⟩
      case measure => simp [intOf]; omega
    · have hjn : j = N := by omega
      have Hjn := Lib.hid hjn
      clear hjn
      have j1 : decide ((j : Int) < (N : Int)) = false := decide_eq_false (by omega)
      go_wp2
      go_ret
      exact ⟨by rw [← Hjn.out, Hz.out]; rfl, HB4.out⟩
theorem okA_acX {X : List Sl} {g : Gp} (hX : ∀ x ∈ X, x.L.length ≤ 60) (hn : X.length ≤ 30) (h0 : 0 ≤ g.pr) (h1 : g.pr ≤ 1125899906842624) : okA (acX X g) := by
  have h9 := (sumC_le X g.nm hX hn X.length).1
  rw [List.take_length] at h9
  refine ⟨h0, h1, ?_, ?_⟩
  · show (0 : Int) ≤ (sumC X g.nm : Int)
    omega
  · show (sumC X g.nm : Int) ≤ _
    omega
set_option maxRecDepth 100000 in
set_option maxHeartbeats 4000000 in
theorem rtotal_any (base p : Nat) (ga : Option Addr) (l : List Gp) (gk : Nat) (X : List Sl) (v : Value) (w : World) (h : RG w base p ga l gk X v) (hr : rightGs l = true) :
    Calls Try.prog 22 #[.pointer (some ⟨p, 0, none⟩)] w fun e w' => e = .returned (.int .i64 (totA (l.map (acX X)) (l.map (acX X)).length)) ∧ Below w.heap.size w w' := by
  have Hh := Lib.hid h
  have HR := Lib.hid hr
  have c0 := h.t.row.cell 0
  dsimp only [List.getElem?_cons_zero] at c0
  have hp := h.t.row.lt
  have HG := Lib.hid h.g
  have hm := h.m
  have hoA : ∀ y ∈ l.map (acX X), okA y := fun y hy => by
    obtain ⟨g, hg, rfl⟩ := List.mem_map.1 hy
    exact okA_acX (fun x hx => (h.x x hx).2) h.n (pr_of_right hr g hg).1 (pr_of_right hr g hg).2
  have HoA := Lib.hid hoA
  rw [List.length_map]
  obtain ⟨A, hA⟩ : ∃ A, A = l.map (acX X) := ⟨_, rfl⟩
  have HA := Lib.hid hA
  rw [← hA] at HoA ⊢
  obtain ⟨gn, hgn⟩ : ∃ n, l.length = n := ⟨_, rfl⟩
  have Hgn := Lib.hid hgn
  rw [hgn] at c0 hm ⊢
  clear h hr hA hgn hoA
  go_enter Try.func22, Try.ntmps22
  go_wp2
  go_loopw [3, 4] (fun vs vi wr => ∃ j : Nat, j ≤ gn ∧ vi = .int .i64 j ∧ vs = .int .i64 (totA A j) ∧ Below w.heap.size w wr) (fun _ vi _ => gn - (intOf vi).toNat)
  case atStart => exact ⟨0, Nat.zero_le _, rfl, rfl, by (repeat' (first | with_reducible exact Below.refl _ _ | with_reducible assumption | with_reducible refine Below.drew ?_ | with_reducible refine below_drewN' ?_ _ | with_reducible refine Below.alloc ?_ ?_ _ | with_reducible refine Below.setCell ?_ ?_ _ | with_reducible refine below_step (by assumption) ?_ ?_ | omega | (simp; done) | (simp; omega)))⟩
  case round =>
    obtain ⟨j, hj, rfl, rfl, hB⟩ := hrel
    have HB := Lib.hid hB
    have hbz := hB.size
    have d0 : wr.cell? ⟨p, 0, none⟩ = some (.slice ga gn gk) := by rw [hB.cell (p := ⟨p, 0, none⟩) hp]; exact c0
    have hpr : p < wr.heap.size := by omega
    have htl := totA_le HoA.out j
    clear hB
    by_cases hlt : j < gn
    · obtain ⟨g, hg⟩ := mem_at (l := l) (k := j) (by rw [Hgn.out]; exact hlt)
      obtain ⟨gb, off, e1, hgb, hgc⟩ := HG.out (by rw [Hgn.out]; omega)
      subst e1
      have g0 := (grow_cells (hgc j g hg)).1
      have g1 : wr.cell? ⟨gb, off + j * 15, none⟩ = some (.string g.nm) := by rw [HB.out.cell (p := ⟨gb, _, none⟩) hgb]; exact g0
      have hgw : gb < wr.heap.size := by omega
      obtain ⟨hp0, hp1⟩ := pr_of_right HR.out g (List.mem_of_getElem? hg)
      have hgA : A[j]? = some (acX X g) := by rw [HA.out, List.getElem?_map, hg]; rfl
      have hok := HoA.out _ (List.mem_of_getElem? hgA)
      have hct := costA_min hok
      have hcl := costA_le hok
      have HSt := Lib.hid (totA_step hgA)
      obtain ⟨z, hz⟩ : ∃ z, costA (acX X g) = z := ⟨_, rfl⟩
      have HSu := Lib.hid (show Calls Try.prog 16 #[.pointer (some ⟨p, 0, none⟩), .string g.nm] wr (fun e w' => e = .returned (.int .i64 z) ∧ Below wr.heap.size wr w') from by (have h9 := rsum_any base p _ l gk X v g.nm j g wr (Hh.out.below HB.out) (right_find HR.out hg) hg hp0 hp1); rw [← hz, hct]; exact h9)
      rw [hz] at HSt hcl
      obtain ⟨t, ht⟩ : ∃ t, totA A j = t := ⟨_, rfl⟩
      rw [ht] at HSt htl ⊢
      have hw : IntKind.i64.wrap (t + z) = t + z := lwrap_in (by omega) (by omega)
      clear hgc g0 hg hgA hok hct hz ht hp0 hp1
      go_wp2_with (go_at_call 16; (with_reducible refine HSu.out.mono ?_); rintro e w3 ⟨rfl, hb3⟩; have HB3 := Lib.hid (HB.out.trans (hb3.mono hbz)); clear hb3)
      go_roundw
      case rel => exact ⟨j + 1, by omega, by go_num, by rw [HSt.out, ← min_if], HB3.out⟩
      case measure => simp [intOf]; omega
    · have hjn : j = gn := by omega
      have Hjn := Lib.hid hjn
      have j1 : decide ((j : Int) < (gn : Int)) = false := decide_eq_false (by omega)
      clear hjn
      go_wp2
      go_ret
      exact ⟨by rw [← Hjn.out]; rfl, by (have h9 := HB.out); (repeat' (first | with_reducible exact Below.refl _ _ | with_reducible assumption | with_reducible refine Below.drew ?_ | with_reducible refine below_drewN' ?_ _ | with_reducible refine Below.alloc ?_ ?_ _ | with_reducible refine Below.setCell ?_ ?_ _ | with_reducible refine below_step (by assumption) ?_ ?_ | omega | (simp; done) | (simp; omega)))⟩
theorem rnew_yes (a : Option Addr) (l : List Gp) (ka : Nat) (w : World) (hF : GpL w a l) (hI : ∀ g ∈ l, MacIn w g.like) (hL : lightGs l = true) (hr : rightGs l = true) :
    Calls Try.prog 11 #[.slice a l.length ka] w fun e w' => ∃ p, e = .returned (.tuple #[.pointer (some ⟨p, 0, none⟩), .int .i64 0]) ∧ RL w' w.heap.size p a l.length ka [] (.slice none 0 0) ∧ Below w.heap.size w w' := by
  have HRt := Lib.hid (refrightgs_any a l ka w hF hI hL)
  rw [hr] at HRt
  go_enter Try.func11, Try.ntmps11
  go_wp2_with (go_at_call 24; (with_reducible refine HRt.out.mono ?_); rintro e w3 ⟨rfl, hb3⟩)
  go_ret2
  refine ⟨w3.heap.size, rfl, ⟨Blk.new w3 62 [.slice a l.length ka, .slice none 0 0], World.ownsRow_nil _ _ _ _, (fun e => by cases e), hb3.size⟩, hb3.alloc hb3.size _⟩
theorem rnew_no (a : Option Addr) (l : List Gp) (ka : Nat) (w : World) (hF : GpL w a l) (hI : ∀ g ∈ l, MacIn w g.like) (hL : lightGs l = true) (hr : rightGs l = false) :
    Calls Try.prog 11 #[.slice a l.length ka] w fun e w' => ∃ p, e = .returned (.tuple #[.pointer (some ⟨p, 0, none⟩), .int .i64 12]) ∧ Below w.heap.size w w' := by
  have HRt := Lib.hid (refrightgs_any a l ka w hF hI hL)
  rw [hr] at HRt
  go_enter Try.func11, Try.ntmps11
  go_wp2_with (go_at_call 24; (with_reducible refine HRt.out.mono ?_); rintro e w3 ⟨rfl, hb3⟩)
  go_ret2
  exact ⟨w3.heap.size, rfl, hb3.alloc hb3.size _⟩
end Go.Proofs.Ytaipiflbigpniaa

/-
  The program's ledger and the document's, side by side.
-/
namespace Go.Proofs.Ytaipiflbigpniaa
open Go.RowKit
set_option linter.unusedVariables false
set_option linter.unusedSimpArgs false

section
variable {w w' : World} {b p : Nat}
theorem lblk_ne {t t' : TypeId} {cs cs' : List Value} (h : Blk w b t cs) (h' : Blk w p t' cs') (ht : t ≠ t') : b ≠ p := fun e => by
  subst e
  unfold Blk at h h'
  rw [h] at h'
  injection h' with h'
  injection h' with _ h2
  exact ht h2
theorem lown_ne {B g k q : Nat} {e t : TypeId} {v : Value} {xs cs : List Value} (h : w.ownsRow B e k v q xs) (hg : v.ownBlock = some g) (h' : Blk w b t cs) (ht : e ≠ t) : g ≠ b := fun e' => by
  subst e'
  rcases h.2 with ⟨rfl, _⟩ | ⟨g', cap, cur, rfl, h1, h2, h3⟩
  · cases hg
  · obtain rfl : g' = g := Option.some.inj hg
    unfold Blk at h'
    rw [h2] at h'
    injection h' with h'
    injection h' with _ h4
    exact ht h4
theorem lown_own {B B' g k q k' q' : Nat} {e e' : TypeId} {v v' : Value} {xs xs' : List Value} (h : w.ownsRow B e k v q xs) (hg : v.ownBlock = some g) (h' : w.ownsRow B' e' k' v' q' xs') (hg' : v'.ownBlock = some g) (ht : e ≠ e') : False := by
  rcases h.2 with ⟨rfl, _⟩ | ⟨g1, cap, cur, rfl, h1, h2, h3⟩
  · cases hg
  · obtain rfl : g1 = g := Option.some.inj hg
    rcases h'.2 with ⟨rfl, _⟩ | ⟨g2, cap2, cur2, rfl, h4, h5, h6⟩
    · cases hg'
    · obtain rfl : g2 = g1 := Option.some.inj hg'
      rw [h2] at h5
      injection h5 with h5
      injection h5 with _ h7
      exact ht h7
end
/-- Both, behind the ticks X. -/
structure LP (w0 w : World) (b : Nat) (A : List Ac) (v : Value) (tk : Int) (p : Nat) (ga : Option Addr) (l : List Gp) (gk : Nat) (X : List Sl) (rv : Value) : Prop where
  t : TT w0 w b A v tk
  r : RL w w0.heap.size p ga l.length gk X rv
section
variable {w0 w w' : World} {b p gk : Nat} {A A' : List Ac} {v rv : Value} {tk tk' : Int} {ga : Option Addr} {l : List Gp} {X : List Sl}
theorem LP.below (h : LP w0 w b A v tk p ga l gk X rv) (hb : Below w.heap.size w w') : LP w0 w' b A v tk p ga l gk X rv := ⟨h.t.below hb, h.r.below hb⟩
theorem LP.apart (h : LP w0 w b A v tk p ga l gk X rv) : p ∉ b :: v.ownBlock.toList ∧ ∀ g, rv.ownBlock = some g → g ∉ b :: v.ownBlock.toList := by
  have h1 := lblk_ne h.r.row h.t.t.row (by decide)
  have h2 : ∀ g, v.ownBlock = some g → g ≠ p := fun g hg => lown_ne h.t.t.own hg h.r.row (by decide)
  refine ⟨fun hk => ?_, fun g hg hk => ?_⟩
  · rcases List.mem_cons.1 hk with e | hk
    · exact h1 e
    · exact h2 p (by simpa using hk) rfl
  · rcases List.mem_cons.1 hk with e | hk
    · exact lown_ne h.r.own hg h.t.t.row (by decide) e
    · exact lown_own h.r.own hg h.t.t.own (by simpa using hk) (by decide)
theorem LP.turn1 (h : LP w0 w b A v tk p ga l gk X rv) (ht : TT w0 w' b A' v tk') (ho : Only (b :: v.ownBlock.toList) w w') : LP w0 w' b A' v tk' p ga l gk X rv :=
  ⟨ht, h.r.only ho h.apart.1 h.apart.2⟩
theorem LP.add2 (h : LP w0 w b A v tk p ga l gk X rv) (x : Sl) (hX : X.length ≤ 1000) :
    Calls Try.prog 13 #[.pointer (some ⟨p, 0, none⟩), .slice x.c x.L.length x.k] w fun e w' => e = .returned (.tuple #[]) ∧ ∃ rv', LP w0 w' b A v tk p ga l gk (X ++ [x]) rv' := by
  refine (radd_any w0.heap.size p ga l.length gk X rv x w h.r hX).mono fun e w' ⟨he, v', hr, ho⟩ => ⟨he, v', ⟨⟨h.t.t.only ho ?_ fun g hg => ?_, ?_⟩, hr⟩⟩
  · have h1 := lblk_ne h.t.t.row h.r.row (by decide)
    simpa using h1
  · have h1 := lown_ne h.t.t.own hg h.r.row (by decide)
    simpa using h1
  · exact ho.below h.t.bl h.t.bl.size (by simpa using h.r.hp)
theorem LP.copy (h : LP w0 w b A v tk p ga l gk X rv) (hA : A.length ≤ 20) :
    Calls Try.prog 14 #[.pointer (some ⟨b, 0, none⟩)] w fun e w' => ∃ b2 v2, e = .returned (.pointer (some ⟨b2, 0, none⟩)) ∧ TC w0 w' b A v tk b2 A v2 tk ∧ RL w' w0.heap.size p ga l.length gk X rv := by
  have h3 := h.t.copy hA
  refine (lcopy_any w0.heap.size b A v tk w h.t.t (by omega)).mono ?_
  rintro e w' ⟨b2, v2, rfl, hT, hB⟩
  have hz := h.t.bl.size
  refine ⟨b2, v2, rfl, ⟨h.t.below hB, ⟨⟨hT.row, own_base3 hT.own hz, hT.ne, Nat.le_trans hz hT.hb⟩, h.t.bl.trans (hB.mono hz)⟩, fun k hk hk2 => ?_⟩, h.r.below hB⟩
  have h1 := (h.t.own k hk2).2
  rcases List.mem_cons.1 hk with rfl | hk
  · have := hT.hb
    omega
  · have := (own_lt hT.own (by simpa using hk)).1
    omega
theorem LP.rg (h : LP w0 w b A v tk p ga l gk X rv) (hF : GpL w0 ga l) (hX : ∀ x ∈ X, InsL w0 x.c x.L ∧ x.L.length ≤ 60) (hn : X.length ≤ 30) (hm : l.length ≤ 1000) : RG w w0.heap.size p ga l gk X rv :=
  ⟨h.r, hF.mono h.t.bl, fun x hx => ⟨(hX x hx).1.mono h.t.bl, (hX x hx).2⟩, hn, hm⟩
theorem acX_num (hl : lightGs l = true) (hX : ∀ x ∈ X, x.L.length ≤ 60) (hn : X.length ≤ 30) : ∀ y ∈ l.map (acX X), y.nm.size ≤ maxLen ∧ 0 ≤ y.su ∧ y.su ≤ 1000000000 ∧ 0 ≤ y.pk ∧ y.pk ≤ 1000000000 := fun y hy => by
  obtain ⟨g, hg, rfl⟩ := List.mem_map.1 hy
  have h1 := ((lightGs_iff l).1 hl).2 g hg
  have h9 := sumC_le X g.nm hX hn X.length
  rw [List.take_length] at h9
  refine ⟨by show g.nm.size ≤ maxLen; unfold maxLen; omega, ?_, ?_, ?_, ?_⟩
  · show (0 : Int) ≤ (sumC X g.nm : Int); omega
  · show (sumC X g.nm : Int) ≤ _; omega
  · show (0 : Int) ≤ (maxC X g.nm : Int); omega
  · show (maxC X g.nm : Int) ≤ _; omega
end
end Go.Proofs.Ytaipiflbigpniaa

/-
  LedgerTells: what any groups cost, by any ticks, how many machines they had at most, and on the mean, is as the document says.
-/
namespace Go.Proofs.Ytaipiflbigpniaa
open Go.ChangeShapes Go.WideShapes Go.ChangeAt Go.RowKit
set_option linter.unusedVariables false
set_option linter.unusedSimpArgs false
namespace ledgerTells

theorem lit_all {xs : List Sl} (h : litS xs = true) : xs.length ≤ 30 ∧ ∀ x ∈ xs, x.L.length ≤ 60 ∧ ∀ y ∈ x.L, y.gp.size ≤ maxLen := by
  unfold litS at h
  rw [Bool.and_eq_true, decide_eq_true_eq, List.all_eq_true] at h
  refine ⟨h.1, fun x hx => ?_⟩
  have h5 := h.2 x hx
  unfold litR at h5
  rw [Bool.and_eq_true, decide_eq_true_eq, List.all_eq_true] at h5
  refine ⟨h5.1, fun y hy => ?_⟩
  have h6 := h5.2 y hy
  unfold litI at h6
  rw [Bool.and_eq_true, decide_eq_true_eq, decide_eq_true_eq] at h6
  unfold maxLen
  omega

set_option maxRecDepth 100000 in
set_option maxHeartbeats 16000000 in
theorem walk (a : Option Addr) (l : List Gp) (ka : Nat) (c : Option Addr) (xs : List Sl) (kc : Nat) (x : Int) (w : World) (hx0 : 0 ≤ x) (hx1 : x ≤ 255) (hF : GpL w a l) (hl : l.length ≤ maxLen) (hI : ∀ g ∈ l, MacIn w g.like) (hS : SlL w c xs) (hX : ∀ x ∈ xs, InsL w x.c x.L ∧ x.L.length ≤ maxLen) (hm : xs.length ≤ maxLen) :
    Calls Try.prog 3 #[.slice a l.length ka, .slice c xs.length kc, .int .u8 x] w fun e w' => e = .returned (.bool true) ∧ Below w.heap.size w w' := by
  have HX := Lib.hid (Below.refl w.heap.size w)
  have HK := Lib.hid (fun V (hV : Below w.heap.size w V) => known_any V)
  have HL := Lib.hid (fun V (hV : Below w.heap.size w V) => lightgs_any a l ka V (hF.mono hV) hl (fun g hg => (hI g hg).mono hV))
  cases h1 : lightGs l
  · rw [h1] at HL
    clear hF hI hS hX h1
    go_enter Try.func3, Try.ntmps3
    go_wp2_with (first
      | (go_at_call 7; ((with_reducible refine (HL.out _ HX.out).mono ?_); rintro e w1 ⟨rfl, hb1⟩; have HX1 := Lib.hid ((HX).out.trans (Below.mono hb1 (HX).out.size))))
      | (go_at_call 9; ((with_reducible refine (HK.out _ HX1.out).mono ?_); rintro e w2 ⟨rfl, hb2⟩; have HX2 := Lib.hid ((HX1).out.trans (Below.mono hb2 (HX1).out.size)))))
    go_ret
    exact ⟨rfl, HX2.out⟩
  · rw [h1] at HL
    have HLL := Lib.hid (fun V (hV : Below w.heap.size w V) => llight_any c kc xs V (hS.mono hV) (fun y hy => ⟨(hX y hy).1.mono hV, (hX y hy).2⟩) hm)
    cases h3 : litS xs
    · rw [h3] at HLL
      clear hF hI hS hX
      go_enter Try.func3, Try.ntmps3
      go_wp2_with (first
        | (go_at_call 7; ((with_reducible refine (HL.out _ HX.out).mono ?_); rintro e w1 ⟨rfl, hb1⟩; have HX1 := Lib.hid ((HX).out.trans (Below.mono hb1 (HX).out.size))))
        | (go_at_call 8; (with_reducible refine (HLL.out _ HX1.out).mono ?_); rintro e w3 ⟨rfl, rfl⟩)
        | (go_at_call 9; ((with_reducible refine (HK.out _ HX1.out).mono ?_); rintro e w4 ⟨rfl, hb4⟩; have HX4 := Lib.hid ((HX1).out.trans (Below.mono hb4 (HX1).out.size)))))
      go_ret
      exact ⟨rfl, HX4.out⟩
    · rw [h3] at HLL
      obtain ⟨hl20, hlg⟩ := (lightGs_iff l).1 h1
      obtain ⟨hx30, hx60⟩ := lit_all h3
      obtain ⟨n, hn⟩ : ∃ n, xs.length = n := ⟨_, rfl⟩
      have Hn := Lib.hid hn
      obtain ⟨gn, hgn⟩ : ∃ n, l.length = n := ⟨_, rfl⟩
      have Hgn := Lib.hid hgn
      cases h2 : rightGs l
      · have HN := Lib.hid (fun V (hV : Below w.heap.size w V) => lnew_no a l ka V (hF.mono hV) (fun g hg => (hI g hg).mono hV) h1 h2)
        have HM := Lib.hid (fun V (hV : Below w.heap.size w V) => rnew_no a l ka V (hF.mono hV) (fun g hg => (hI g hg).mono hV) h1 h2)
        rw [hgn] at HL HN HM ⊢
        rw [hn] at HLL ⊢
        clear hF hI hS hX h3 hx60 hn hgn hlg
        have tail : ∀ V, Below w.heap.size w V → True := fun _ _ => trivial
        clear tail
        go_enter Try.func3, Try.ntmps3
        go_wp2_with (first
          | (go_at_call 7; ((with_reducible refine (HL.out _ HX.out).mono ?_); rintro e w1 ⟨rfl, hb1⟩; have HX1 := Lib.hid ((HX).out.trans (Below.mono hb1 (HX).out.size))))
          | (go_at_call 8; (with_reducible refine (HLL.out _ HX1.out).mono ?_); rintro e w3 ⟨rfl, rfl⟩)
          | (go_at_call 10; (with_reducible refine (HN.out _ HX1.out).mono ?_); rintro e w4 ⟨rfl, hb4⟩; have HX4 := Lib.hid (HX1.out.trans (hb4.mono HX1.out.size)))
          | (go_at_call 11; (with_reducible refine (HM.out _ HX4.out).mono ?_); rintro e w5 ⟨p, rfl, hb5⟩; have HX5 := Lib.hid (HX4.out.trans (hb5.mono HX4.out.size))))
        by_cases hn0 : 0 < n
        · have j1 : decide ((0 : Int) < (n : Int)) = true := decide_eq_true (by omega)
          refine wp_loop_rounds 1 ?_
          rw [rounds_succ]
          go_wp2_with (go_at_call 9; (with_reducible refine (HK.out _ HX5.out).mono ?_); rintro e w9 ⟨rfl, hb9⟩)
          go_ret
          exact ⟨rfl, HX5.out.trans (hb9.mono HX5.out.size)⟩
        · obtain rfl : n = 0 := by omega
          refine wp_loop_rounds 1 ?_
          rw [rounds_succ]
          go_wp2_with (go_at_call 9; (with_reducible refine (HK.out _ HX5.out).mono ?_); rintro e w9 ⟨rfl, hb9⟩)
          go_ret
          exact ⟨rfl, HX5.out.trans (hb9.mono HX5.out.size)⟩
      · have HN := Lib.hid (fun V (hV : Below w.heap.size w V) => lnew_yes a l ka V (hF.mono hV) (fun g hg => (hI g hg).mono hV) h1 h2 (by omega))
        have HM := Lib.hid (fun V (hV : Below w.heap.size w V) => rnew_yes a l ka V (hF.mono hV) (fun g hg => (hI g hg).mono hV) h1 h2)
        have HFg := Lib.hid hF
        have HS := Lib.hid hS
        have HXs := Lib.hid hX
        have H60 := Lib.hid hx60
        rw [hgn] at hl20 hl HL HN HM ⊢
        rw [hn] at hx30 hm HLL ⊢
        clear hF hI hS hX h3 hx60 hn hgn hlg
        go_enter Try.func3, Try.ntmps3
        go_wp2_with (first
          | (go_at_call 7; ((with_reducible refine (HL.out _ HX.out).mono ?_); rintro e w1 ⟨rfl, hb1⟩; have HX1 := Lib.hid ((HX).out.trans (Below.mono hb1 (HX).out.size))))
          | (go_at_call 8; (with_reducible refine (HLL.out _ HX1.out).mono ?_); rintro e w3 ⟨rfl, rfl⟩)
          | (go_at_call 10; (with_reducible refine (HN.out _ HX1.out).mono ?_); rintro e w4 ⟨b, v, rfl, hT4, hb4⟩; have HT4 := Lib.hid (show TT w w4 b (l.map acN) v 0 from ⟨⟨hT4.row, own_base3 hT4.own HX1.out.size, hT4.ne, Nat.le_trans HX1.out.size hT4.hb⟩, HX1.out.trans (hb4.mono HX1.out.size)⟩); clear hT4 hb4)
          | (go_at_call 11; (with_reducible refine (HM.out _ HT4.out.bl).mono ?_); rintro e w5 ⟨p, rfl, hR5, hb5⟩; have HP5 := Lib.hid (show LP w w5 b (l.map (acX [])) v 0 p a l ka [] (.slice none 0 0) from ⟨HT4.out.below hb5, by rw [Hgn.out]; exact ⟨hR5.row, own_base3 hR5.own HT4.out.bl.size, hR5.ne, Nat.le_trans HT4.out.bl.size hR5.hp⟩⟩); clear hR5 hb5))
        clear HN HM HL HLL HT4 HX1
        have htm : x.tmod 30 = x % 30 := Int.tmod_eq_emod_of_nonneg hx0
        have hwx : IntKind.i64.wrap x = x := lwrap_in (by omega) (by omega)
        go_loopw [7, 11] (fun vt vi wr => ∃ (k b : Nat) (v rv : Value), k ≤ n ∧ vi = .int .i64 k ∧ vt = .pointer (some ⟨b, 0, none⟩) ∧ LP w wr b (l.map (acX (xs.take k))) v k p a l ka (xs.take k) rv) (fun _ vi _ => n - (intOf vi).toNat)
        case atStart => exact ⟨0, b, v, _, Nat.zero_le _, rfl, rfl, HP5.out⟩
        case round =>
          obtain ⟨k, b, v, rv, hk, rfl, rfl, hP⟩ := hrel
          clear HP5
          by_cases hlt : k < n
          · obtain ⟨y, hy⟩ := mem_at (l := xs) (k := k) (by rw [Hn.out]; exact hlt)
            have hym := List.mem_of_getElem? hy
            obtain ⟨hy60, hyg⟩ := H60.out y hym
            obtain ⟨sb, so, e9, hsb, hsc⟩ := HS.out (by rw [Hn.out]; omega)
            subst e9
            have s0 : w.cell? ⟨sb, so + k, none⟩ = some (.slice y.c y.L.length y.k) := by have h := hsc k y hy 0 (by decide); rw [Nat.mul_one, Nat.add_zero] at h; exact h
            have HS0 := Lib.hid (fun V (hV : Below w.heap.size w V) => show V.cell? ⟨sb, so + k, none⟩ = some (.slice y.c y.L.length y.k) from by rw [hV.cell (p := ⟨sb, _, none⟩) hsb]; exact s0)
            have HXt := Lib.hid (show xs.take k ++ [y] = xs.take (k + 1) from (take_at hy).symm)
            have hX6 : ∀ z ∈ xs.take k, z.L.length ≤ 60 := fun z hz => (H60.out z (List.mem_of_mem_take hz)).1
            have hXk : (xs.take k).length = k := by rw [List.length_take, Hn.out, Nat.min_eq_left hk]
            obtain ⟨X, hX⟩ : ∃ X, X = xs.take k := ⟨_, rfl⟩
            have HXx := Lib.hid (show ∀ z ∈ X, z ∈ xs from fun z hz => List.mem_of_mem_take (by rw [← hX]; exact hz))
            rw [← hX] at hP HXt hX6 hXk
            obtain ⟨X', hX'⟩ : ∃ X', X ++ [y] = X' := ⟨_, rfl⟩
            have HX60 := Lib.hid (show ∀ z ∈ X', z.L.length ≤ 60 from fun z hz => by
              rw [← hX', List.mem_append] at hz
              rcases hz with hz | hz
              · exact hX6 z hz
              · obtain rfl : z = y := by simpa using hz
                exact hy60)
            have HXi := Lib.hid (show ∀ z ∈ X', InsL w z.c z.L ∧ z.L.length ≤ 60 from fun z hz => by
              refine ⟨(HXs.out z ?_).1, HX60.out z hz⟩
              rw [← hX', List.mem_append] at hz
              rcases hz with hz | hz
              · exact HXx.out z hz
              · obtain rfl : z = y := by simpa using hz
                exact hym)
            have HXl := Lib.hid (show X'.length = k + 1 by rw [← hX', List.length_append, hXk]; rfl)
            have HXn := Lib.hid (show X'.length ≤ 30 by rw [HXl.out]; omega)
            have hAd1 := fun V (h : TT w V b (l.map (acX X)) v k) => h.add y.c y.k y.L (HXs.out y hym).1 hy60 hyg (by rw [List.length_map, Hgn.out]; exact hl20) (by omega) (by omega) (acX_num h1 hX6 (by omega))
            rw [acX_next, hX'] at hAd1
            obtain ⟨A', hA'⟩ : ∃ A', A' = l.map (acX X') := ⟨_, rfl⟩
            have HA' := Lib.hid hA'
            have HlA := Lib.hid (show A'.length ≤ 1000 by rw [hA', List.length_map, Hgn.out]; omega)
            have HlA2 := Lib.hid (show A'.length ≤ 20 by rw [hA', List.length_map, Hgn.out]; omega)
            have HoA := Lib.hid (show ∀ z ∈ A', okA z from fun z hz => by
              rw [hA'] at hz
              obtain ⟨g, hg, rfl⟩ := List.mem_map.1 hz
              exact okA_acX HX60.out HXn.out (pr_of_right h2 g hg).1 (pr_of_right h2 g hg).2)
            have hAd2 := fun V (h : TT w V b A' v ((k : Int) + 1)) => h.add y.c y.k y.L (HXs.out y hym).1 hy60 hyg HlA2.out (by omega) (by omega) (by rw [hA']; exact acX_num h1 HX60.out HXn.out)
            rw [← hA'] at hAd1
            have hAd3 := fun V (h : LP w V b A' v ((k : Int) + 1) p a l ka X rv) => h.add2 y (by omega)
            rw [hX'] at HXt
            rw [hX'] at hAd3
            obtain ⟨A, hA⟩ : ∃ A, A = l.map (acX X) := ⟨_, rfl⟩
            rw [← hA] at hP hAd1
            obtain ⟨yl, hyl⟩ : ∃ yl, y.L.length = yl := ⟨_, rfl⟩
            rw [hyl] at HS0 hAd1 hAd2 hAd3
            have HP := Lib.hid hP
            have HAd1 := Lib.hid hAd1
            have HAd2 := Lib.hid hAd2
            have HAd3 := Lib.hid hAd3
            clear hy hym hsc s0 hX hX' hX6 hXk hA' hA hyl hAd1 hAd2 hAd3 hP HXx hyg
            have zs := HS0.out _ HP.out.t.bl
            have zl : sb < wr.heap.size := Nat.lt_of_lt_of_le hsb HP.out.t.bl.size
            obtain ⟨cz, hcz⟩ : ∃ cz, x % 30 = cz := ⟨_, rfl⟩
            have hc0 : 0 ≤ cz ∧ cz < 30 := by omega
            rw [hcz] at htm
            clear hcz
            by_cases hcut : (k : Int) = cz
            · have kq : ((k : Int) == cz) = true := beq_iff_eq.2 hcut
              clear hcut
              go_wp2_with (first
                | (go_at_call 12; (with_reducible refine (HAd1.out _ HP.out.t).mono ?_); rintro e w5 ⟨rfl, hT5, hO5⟩; have HP5 := Lib.hid (HP.out.turn1 hT5 hO5); have zs5 := HS0.out _ hT5.bl; have zl5 : sb < w5.heap.size := Nat.lt_of_lt_of_le hsb hT5.bl.size; clear hT5 hO5)
                | (go_at_call 13; (with_reducible refine (HAd3.out _ HP5.out).mono ?_); rintro e w6 ⟨rfl, rv', hP6⟩; have HP6 := Lib.hid hP6; clear hP6)
                | (go_at_call 14; (with_reducible refine (HP6.out.copy HlA2.out).mono ?_); rintro e w7 ⟨b2, v2, rfl, hC7, hR7⟩; have HC7 := Lib.hid hC7; have HR7 := Lib.hid hR7; have zs7 := HS0.out _ hC7.t1.bl; have zl7 : sb < w7.heap.size := Nat.lt_of_lt_of_le hsb hC7.t1.bl.size; clear hC7 hR7)
                | (go_at_call 12; (with_reducible refine (HAd2.out _ HC7.out.t1).mono ?_); rintro e w8 ⟨rfl, hT8, hO8⟩; have HC9 := Lib.hid (show LP w w8 b2 A' v2 ((k : Int) + 1) p a l ka X' rv' from ⟨(HC7.out.only hT8 hO8).t2, ((show LP w w7 b A' v ((k : Int) + 1) p a l ka X' rv' from ⟨HC7.out.t1, HR7.out⟩).turn1 hT8 hO8).r⟩); clear hT8 hO8))
              clear HAd1 HAd2 HAd3 HP HP5 HP6 HC7 HR7 zs zl zs5 zl5 zs7 zl7
              go_loopw [13] (fun vj wr => ∃ j : Nat, j ≤ gn ∧ vj = .int .i64 j ∧ LP w wr b2 A' v2 ((k : Int) + 1) p a l ka X' rv') (fun vj _ => gn - (intOf vj).toNat)
              case atStart => exact ⟨0, Nat.zero_le _, rfl, HC9.out⟩
              case round =>
                clear HC9
                obtain ⟨j, hj, rfl, hC⟩ := hrel
                have HC := Lib.hid hC
                clear hC
                by_cases hlt2 : j < gn
                · obtain ⟨g0, hg0⟩ := mem_at (l := l) (k := j) (by rw [Hgn.out]; exact hlt2)
                  have hfi := right_find h2 hg0
                  obtain ⟨g, hgk, hgn2, hfd⟩ := findA_ac X' g0.nm l j hfi
                  rw [hg0] at hgk
                  obtain rfl := Option.some.inj hgk
                  rw [← HA'.out] at hfd
                  obtain ⟨hp0, hp1⟩ := pr_of_right h2 g0 (List.mem_of_getElem? hg0)
                  obtain ⟨gb, off, e1, hgb, hgc⟩ := HFg.out (by rw [Hgn.out]; omega)
                  subst e1
                  have hgw : gb < wr.heap.size := Nat.lt_of_lt_of_le hgb HC.out.t.bl.size
                  have d0 := (grow_cells (hgc j g0 hg0)).1
                  have d1 : wr.cell? ⟨gb, off + j * 15, none⟩ = some (.string g0.nm) := by rw [HC.out.t.bl.cell (p := ⟨gb, _, none⟩) hgb]; exact d0
                  have hok := okA_acX HX60.out HXn.out hp0 hp1
                  have hct := costA_min hok
                  have hbd := sumC_bd g0.nm X'.length X' rfl HX60.out
                  obtain ⟨r, hr1, hr2, hr3⟩ := mean_le (s := sumC X' g0.nm) (m := k + 1) (p := maxC X' g0.nm) (by omega) (by omega) hbd.2 (by have h9 := hbd.1; rwa [HXl.out] at h9)
                  obtain ⟨z, hz⟩ : ∃ z, costA (acX X' g0) = z := ⟨_, rfl⟩
                  have Hzc := Lib.hid (show min (g0.pr * (sumC X' g0.nm : Int)) 1125899906842624 = z by rw [← hz, hct]; rfl)
                  have Hsu := Lib.hid (show (acX X' g0).su = (sumC X' g0.nm : Int) from rfl)
                  have Hpk := Lib.hid (show (acX X' g0).pk = (maxC X' g0.nm : Int) from rfl)
                  have hS0 : sumC X' g0.nm ≤ 1800 := by
                    have h9 := (sumC_le X' g0.nm HX60.out HXn.out X'.length).1
                    rwa [List.take_length] at h9
                  obtain ⟨sn, hsn⟩ : ∃ z : Nat, sumC X' g0.nm = z := ⟨_, rfl⟩
                  obtain ⟨pn, hpn⟩ : ∃ z : Int, (maxC X' g0.nm : Int) = z := ⟨_, rfl⟩
                  obtain ⟨nm, hnm⟩ : ∃ s, g0.nm = s := ⟨_, rfl⟩
                  have Hsn := Lib.hid hsn
                  have Hpn := Lib.hid hpn
                  rw [hsn] at hr1 Hzc Hsu hS0
                  rw [hpn] at Hpk
                  rw [hnm] at d1 hfd hfi Hsn Hpn
                  have F1 := Lib.hid (fun V (h : LP w V b2 A' v2 ((k : Int) + 1) p (some ⟨gb, off, none⟩) l ka X' rv') => show Calls Try.prog 15 #[.pointer (some ⟨b2, 0, none⟩), .string nm] V (fun e w' => e = .returned (.int .i64 z) ∧ Below V.heap.size V w') from by (have h9 := lsum_any _ b2 _ v2 _ nm V h.t.t HlA.out HoA.out); rw [hfd, hz] at h9; exact h9)
                  have F2 := Lib.hid (fun V (h : LP w V b2 A' v2 ((k : Int) + 1) p (some ⟨gb, off, none⟩) l ka X' rv') => show Calls Try.prog 16 #[.pointer (some ⟨p, 0, none⟩), .string nm] V (fun e w' => e = .returned (.int .i64 z) ∧ Below V.heap.size V w') from by (have h9 := rsum_any _ p _ l ka X' rv' nm j g0 V (h.rg HFg.out HXi.out HXn.out (by rw [Hgn.out]; omega)) hfi hg0 hp0 hp1); rw [Hsn.out, Hzc.out] at h9; exact h9)
                  have F3 := Lib.hid (fun V (h : LP w V b2 A' v2 ((k : Int) + 1) p (some ⟨gb, off, none⟩) l ka X' rv') => show Calls Try.prog 17 #[.pointer (some ⟨b2, 0, none⟩), .string nm] V (fun e w' => e = .returned (.int .i64 pn) ∧ Below V.heap.size V w') from by (have h9 := lpeak_any _ b2 _ v2 _ nm V h.t.t HlA.out); rw [hfd, Hpk.out] at h9; exact h9)
                  have F4 := Lib.hid (fun V (h : LP w V b2 A' v2 ((k : Int) + 1) p (some ⟨gb, off, none⟩) l ka X' rv') => show Calls Try.prog 18 #[.pointer (some ⟨p, 0, none⟩), .string nm] V (fun e w' => e = .returned (.int .i64 pn) ∧ Below V.heap.size V w') from by (have h9 := rpeak_any _ p _ l ka X' rv' nm j V (h.rg HFg.out HXi.out HXn.out (by rw [Hgn.out]; omega)) hfi); rw [Hpn.out] at h9; exact h9)
                  have F5 := Lib.hid (fun V (h : LP w V b2 A' v2 ((k : Int) + 1) p (some ⟨gb, off, none⟩) l ka X' rv') => lmean_any _ b2 _ v2 _ nm V h.t.t HlA.out (by omega) r (by rw [hfd, Hsu.out]; exact hr1))
                  have F6 := Lib.hid (fun V (h : LP w V b2 A' v2 ((k : Int) + 1) p (some ⟨gb, off, none⟩) l ka X' rv') => show Calls Try.prog 20 #[.pointer (some ⟨p, 0, none⟩), .string nm] V (fun e w' => e = .returned (.int .i64 (sn : Int)) ∧ Below V.heap.size V w') from by (have h9 := rall_any _ p _ l ka X' rv' nm j V (h.rg HFg.out HXi.out HXn.out (by rw [Hgn.out]; omega)) hfi); rw [Hsn.out] at h9; exact h9)
                  obtain ⟨q1, hq1⟩ : ∃ z, floatOfInt .f64 (sn : Int) = z := ⟨_, rfl⟩
                  obtain ⟨q2, hq2⟩ : ∃ z, floatOfInt .f64 ((k : Int) + 1) = z := ⟨_, rfl⟩
                  have hq := fun V => run_float_arith (P := Try.prog) V .quo 46 .f64 q1 q2 r (by rw [← hq1, ← hq2]; exact hr1)
                  clear hgk hgn2 hfd hfi hgc d0 hg0 hok hct hbd hr1 hr2 hz hsn hpn hp0 hp1 hnm
                  go_wp2_with (first | (go_at_call 15; (with_reducible refine (F1.out _ HC.out).mono ?_); rintro e w7 ⟨rfl, hb⟩; have HC' := Lib.hid (HC.out.below hb); clear HC hb; have HC := HC'; clear HC') | (go_at_call 16; (with_reducible refine (F2.out _ HC.out).mono ?_); rintro e w7 ⟨rfl, hb⟩; have HC' := Lib.hid (HC.out.below hb); clear HC hb; have HC := HC'; clear HC') | (go_at_call 17; (with_reducible refine (F3.out _ HC.out).mono ?_); rintro e w7 ⟨rfl, hb⟩; have HC' := Lib.hid (HC.out.below hb); clear HC hb; have HC := HC'; clear HC') | (go_at_call 18; (with_reducible refine (F4.out _ HC.out).mono ?_); rintro e w7 ⟨rfl, hb⟩; have HC' := Lib.hid (HC.out.below hb); clear HC hb; have HC := HC'; clear HC') | (go_at_call 19; (with_reducible refine (F5.out _ HC.out).mono ?_); rintro e w7 ⟨rfl, hb⟩; have HC' := Lib.hid (HC.out.below hb); clear HC hb; have HC := HC'; clear HC') | (go_at_call 20; (with_reducible refine (F6.out _ HC.out).mono ?_); rintro e w7 ⟨rfl, hb⟩; have HC' := Lib.hid (HC.out.below hb); clear HC hb; have HC := HC'; clear HC'))
                  go_roundw
                  case rel => exact ⟨j + 1, by omega, by go_num, HC.out⟩
                  case measure => simp [intOf]; omega
                · have hj2 : j = gn := by omega
                  subst hj2
                  obtain ⟨ta, hta⟩ : ∃ z, totA A' A'.length = z := ⟨_, rfl⟩
                  have F7 := Lib.hid (fun V (h : LP w V b2 A' v2 ((k : Int) + 1) p a l ka X' rv') => show Calls Try.prog 21 #[.pointer (some ⟨b2, 0, none⟩)] V (fun e w' => e = .returned (.int .i64 ta) ∧ Below V.heap.size V w') from by (have h9 := ltotal_any _ b2 _ v2 _ V h.t.t HlA.out HoA.out); rw [hta] at h9; exact h9)
                  have F8 := Lib.hid (fun V (h : LP w V b2 A' v2 ((k : Int) + 1) p a l ka X' rv') => show Calls Try.prog 22 #[.pointer (some ⟨p, 0, none⟩)] V (fun e w' => e = .returned (.int .i64 ta) ∧ Below V.heap.size V w') from by (have h9 := rtotal_any _ p _ l ka X' rv' V (h.rg HFg.out HXi.out HXn.out (by rw [Hgn.out]; omega)) h2); rw [← HA'.out, hta] at h9; exact h9)
                  have F9 := Lib.hid (fun V (h : LP w V b2 A' v2 ((k : Int) + 1) p a l ka X' rv') => lticks_any _ b2 _ v2 _ V h.t.t)
                  have hwk : IntKind.i64.wrap ((k : Int) + 1) = (k : Int) + 1 := lwrap_in (by omega) (by omega)
                  clear hta
                  go_wp2_with (first | (go_at_call 21; (with_reducible refine (F7.out _ HC.out).mono ?_); rintro e w7 ⟨rfl, hb⟩; have HC' := Lib.hid (HC.out.below hb); clear HC hb; have HC := HC'; clear HC') | (go_at_call 22; (with_reducible refine (F8.out _ HC.out).mono ?_); rintro e w7 ⟨rfl, hb⟩; have HC' := Lib.hid (HC.out.below hb); clear HC hb; have HC := HC'; clear HC') | (go_at_call 23; (with_reducible refine (F9.out _ HC.out).mono ?_); rintro e w8 ⟨rfl, rfl⟩))
                  go_roundw
                  case rel => exact ⟨k + 1, b2, v2, rv', by omega, by go_num, rfl, by (have h9 := HC.out); rw [HA'.out, HXt.out] at h9; exact h9⟩
                  case measure => simp [intOf]; omega
            · have kq : ((k : Int) == cz) = false := by simpa using hcut
              clear hcut
              go_wp2_with (first
                | (go_at_call 12; (with_reducible refine (HAd1.out _ HP.out.t).mono ?_); rintro e w5 ⟨rfl, hT5, hO5⟩; have HP5 := Lib.hid (HP.out.turn1 hT5 hO5); have zs5 := HS0.out _ hT5.bl; have zl5 : sb < w5.heap.size := Nat.lt_of_lt_of_le hsb hT5.bl.size; clear hT5 hO5)
                | (go_at_call 13; (with_reducible refine (HAd3.out _ HP5.out).mono ?_); rintro e w6 ⟨rfl, rv', hP6⟩; have HC9 := Lib.hid hP6; clear hP6))
              clear HAd1 HAd2 HAd3 HP HP5 zs zl zs5 zl5
              go_loopw [13] (fun vj wr => ∃ j : Nat, j ≤ gn ∧ vj = .int .i64 j ∧ LP w wr b A' v ((k : Int) + 1) p a l ka X' rv') (fun vj _ => gn - (intOf vj).toNat)
              case atStart => exact ⟨0, Nat.zero_le _, rfl, HC9.out⟩
              case round =>
                clear HC9
                obtain ⟨j, hj, rfl, hC⟩ := hrel
                have HC := Lib.hid hC
                clear hC
                by_cases hlt2 : j < gn
                · obtain ⟨g0, hg0⟩ := mem_at (l := l) (k := j) (by rw [Hgn.out]; exact hlt2)
                  have hfi := right_find h2 hg0
                  obtain ⟨g, hgk, hgn2, hfd⟩ := findA_ac X' g0.nm l j hfi
                  rw [hg0] at hgk
                  obtain rfl := Option.some.inj hgk
                  rw [← HA'.out] at hfd
                  obtain ⟨hp0, hp1⟩ := pr_of_right h2 g0 (List.mem_of_getElem? hg0)
                  obtain ⟨gb, off, e1, hgb, hgc⟩ := HFg.out (by rw [Hgn.out]; omega)
                  subst e1
                  have hgw : gb < wr.heap.size := Nat.lt_of_lt_of_le hgb HC.out.t.bl.size
                  have d0 := (grow_cells (hgc j g0 hg0)).1
                  have d1 : wr.cell? ⟨gb, off + j * 15, none⟩ = some (.string g0.nm) := by rw [HC.out.t.bl.cell (p := ⟨gb, _, none⟩) hgb]; exact d0
                  have hok := okA_acX HX60.out HXn.out hp0 hp1
                  have hct := costA_min hok
                  have hbd := sumC_bd g0.nm X'.length X' rfl HX60.out
                  obtain ⟨r, hr1, hr2, hr3⟩ := mean_le (s := sumC X' g0.nm) (m := k + 1) (p := maxC X' g0.nm) (by omega) (by omega) hbd.2 (by have h9 := hbd.1; rwa [HXl.out] at h9)
                  obtain ⟨z, hz⟩ : ∃ z, costA (acX X' g0) = z := ⟨_, rfl⟩
                  have Hzc := Lib.hid (show min (g0.pr * (sumC X' g0.nm : Int)) 1125899906842624 = z by rw [← hz, hct]; rfl)
                  have Hsu := Lib.hid (show (acX X' g0).su = (sumC X' g0.nm : Int) from rfl)
                  have Hpk := Lib.hid (show (acX X' g0).pk = (maxC X' g0.nm : Int) from rfl)
                  have hS0 : sumC X' g0.nm ≤ 1800 := by
                    have h9 := (sumC_le X' g0.nm HX60.out HXn.out X'.length).1
                    rwa [List.take_length] at h9
                  obtain ⟨sn, hsn⟩ : ∃ z : Nat, sumC X' g0.nm = z := ⟨_, rfl⟩
                  obtain ⟨pn, hpn⟩ : ∃ z : Int, (maxC X' g0.nm : Int) = z := ⟨_, rfl⟩
                  obtain ⟨nm, hnm⟩ : ∃ s, g0.nm = s := ⟨_, rfl⟩
                  have Hsn := Lib.hid hsn
                  have Hpn := Lib.hid hpn
                  rw [hsn] at hr1 Hzc Hsu hS0
                  rw [hpn] at Hpk
                  rw [hnm] at d1 hfd hfi Hsn Hpn
                  have F1 := Lib.hid (fun V (h : LP w V b A' v ((k : Int) + 1) p (some ⟨gb, off, none⟩) l ka X' rv') => show Calls Try.prog 15 #[.pointer (some ⟨b, 0, none⟩), .string nm] V (fun e w' => e = .returned (.int .i64 z) ∧ Below V.heap.size V w') from by (have h9 := lsum_any _ b _ v _ nm V h.t.t HlA.out HoA.out); rw [hfd, hz] at h9; exact h9)
                  have F2 := Lib.hid (fun V (h : LP w V b A' v ((k : Int) + 1) p (some ⟨gb, off, none⟩) l ka X' rv') => show Calls Try.prog 16 #[.pointer (some ⟨p, 0, none⟩), .string nm] V (fun e w' => e = .returned (.int .i64 z) ∧ Below V.heap.size V w') from by (have h9 := rsum_any _ p _ l ka X' rv' nm j g0 V (h.rg HFg.out HXi.out HXn.out (by rw [Hgn.out]; omega)) hfi hg0 hp0 hp1); rw [Hsn.out, Hzc.out] at h9; exact h9)
                  have F3 := Lib.hid (fun V (h : LP w V b A' v ((k : Int) + 1) p (some ⟨gb, off, none⟩) l ka X' rv') => show Calls Try.prog 17 #[.pointer (some ⟨b, 0, none⟩), .string nm] V (fun e w' => e = .returned (.int .i64 pn) ∧ Below V.heap.size V w') from by (have h9 := lpeak_any _ b _ v _ nm V h.t.t HlA.out); rw [hfd, Hpk.out] at h9; exact h9)
                  have F4 := Lib.hid (fun V (h : LP w V b A' v ((k : Int) + 1) p (some ⟨gb, off, none⟩) l ka X' rv') => show Calls Try.prog 18 #[.pointer (some ⟨p, 0, none⟩), .string nm] V (fun e w' => e = .returned (.int .i64 pn) ∧ Below V.heap.size V w') from by (have h9 := rpeak_any _ p _ l ka X' rv' nm j V (h.rg HFg.out HXi.out HXn.out (by rw [Hgn.out]; omega)) hfi); rw [Hpn.out] at h9; exact h9)
                  have F5 := Lib.hid (fun V (h : LP w V b A' v ((k : Int) + 1) p (some ⟨gb, off, none⟩) l ka X' rv') => lmean_any _ b _ v _ nm V h.t.t HlA.out (by omega) r (by rw [hfd, Hsu.out]; exact hr1))
                  have F6 := Lib.hid (fun V (h : LP w V b A' v ((k : Int) + 1) p (some ⟨gb, off, none⟩) l ka X' rv') => show Calls Try.prog 20 #[.pointer (some ⟨p, 0, none⟩), .string nm] V (fun e w' => e = .returned (.int .i64 (sn : Int)) ∧ Below V.heap.size V w') from by (have h9 := rall_any _ p _ l ka X' rv' nm j V (h.rg HFg.out HXi.out HXn.out (by rw [Hgn.out]; omega)) hfi); rw [Hsn.out] at h9; exact h9)
                  obtain ⟨q1, hq1⟩ : ∃ z, floatOfInt .f64 (sn : Int) = z := ⟨_, rfl⟩
                  obtain ⟨q2, hq2⟩ : ∃ z, floatOfInt .f64 ((k : Int) + 1) = z := ⟨_, rfl⟩
                  have hq := fun V => run_float_arith (P := Try.prog) V .quo 46 .f64 q1 q2 r (by rw [← hq1, ← hq2]; exact hr1)
                  clear hgk hgn2 hfd hfi hgc d0 hg0 hok hct hbd hr1 hr2 hz hsn hpn hp0 hp1 hnm
                  go_wp2_with (first | (go_at_call 15; (with_reducible refine (F1.out _ HC.out).mono ?_); rintro e w7 ⟨rfl, hb⟩; have HC' := Lib.hid (HC.out.below hb); clear HC hb; have HC := HC'; clear HC') | (go_at_call 16; (with_reducible refine (F2.out _ HC.out).mono ?_); rintro e w7 ⟨rfl, hb⟩; have HC' := Lib.hid (HC.out.below hb); clear HC hb; have HC := HC'; clear HC') | (go_at_call 17; (with_reducible refine (F3.out _ HC.out).mono ?_); rintro e w7 ⟨rfl, hb⟩; have HC' := Lib.hid (HC.out.below hb); clear HC hb; have HC := HC'; clear HC') | (go_at_call 18; (with_reducible refine (F4.out _ HC.out).mono ?_); rintro e w7 ⟨rfl, hb⟩; have HC' := Lib.hid (HC.out.below hb); clear HC hb; have HC := HC'; clear HC') | (go_at_call 19; (with_reducible refine (F5.out _ HC.out).mono ?_); rintro e w7 ⟨rfl, hb⟩; have HC' := Lib.hid (HC.out.below hb); clear HC hb; have HC := HC'; clear HC') | (go_at_call 20; (with_reducible refine (F6.out _ HC.out).mono ?_); rintro e w7 ⟨rfl, hb⟩; have HC' := Lib.hid (HC.out.below hb); clear HC hb; have HC := HC'; clear HC'))
                  go_roundw
                  case rel => exact ⟨j + 1, by omega, by go_num, HC.out⟩
                  case measure => simp [intOf]; omega
                · have hj2 : j = gn := by omega
                  subst hj2
                  obtain ⟨ta, hta⟩ : ∃ z, totA A' A'.length = z := ⟨_, rfl⟩
                  have F7 := Lib.hid (fun V (h : LP w V b A' v ((k : Int) + 1) p a l ka X' rv') => show Calls Try.prog 21 #[.pointer (some ⟨b, 0, none⟩)] V (fun e w' => e = .returned (.int .i64 ta) ∧ Below V.heap.size V w') from by (have h9 := ltotal_any _ b _ v _ V h.t.t HlA.out HoA.out); rw [hta] at h9; exact h9)
                  have F8 := Lib.hid (fun V (h : LP w V b A' v ((k : Int) + 1) p a l ka X' rv') => show Calls Try.prog 22 #[.pointer (some ⟨p, 0, none⟩)] V (fun e w' => e = .returned (.int .i64 ta) ∧ Below V.heap.size V w') from by (have h9 := rtotal_any _ p _ l ka X' rv' V (h.rg HFg.out HXi.out HXn.out (by rw [Hgn.out]; omega)) h2); rw [← HA'.out, hta] at h9; exact h9)
                  have F9 := Lib.hid (fun V (h : LP w V b A' v ((k : Int) + 1) p a l ka X' rv') => lticks_any _ b _ v _ V h.t.t)
                  have hwk : IntKind.i64.wrap ((k : Int) + 1) = (k : Int) + 1 := lwrap_in (by omega) (by omega)
                  clear hta
                  go_wp2_with (first | (go_at_call 21; (with_reducible refine (F7.out _ HC.out).mono ?_); rintro e w7 ⟨rfl, hb⟩; have HC' := Lib.hid (HC.out.below hb); clear HC hb; have HC := HC'; clear HC') | (go_at_call 22; (with_reducible refine (F8.out _ HC.out).mono ?_); rintro e w7 ⟨rfl, hb⟩; have HC' := Lib.hid (HC.out.below hb); clear HC hb; have HC := HC'; clear HC') | (go_at_call 23; (with_reducible refine (F9.out _ HC.out).mono ?_); rintro e w8 ⟨rfl, rfl⟩))
                  go_roundw
                  case rel => exact ⟨k + 1, b, v, rv', by omega, by go_num, rfl, by (have h9 := HC.out); rw [HA'.out, HXt.out] at h9; exact h9⟩
                  case measure => simp [intOf]; omega
          · have j1 : decide ((k : Int) < (n : Int)) = false := decide_eq_false (by omega)
            go_wp2_with (go_at_call 9; (with_reducible refine (HK.out _ hP.t.bl).mono ?_); rintro e w9 ⟨rfl, hb9⟩)
            go_ret
            exact ⟨rfl, hP.t.bl.trans (hb9.mono hP.t.bl.size)⟩

set_option maxRecDepth 100000 in
theorem lifted (os : Os) (started : os.Started) (H : Type) (enc : TypeId × Value → H) :
    ReturnsInHanded {} Try.checked os 3 .any (Rows.ledgerTellsSpec.pre6 enc Try.prog Try.f3 Rows.ledgerTellsRow.domain false) (Rows.ledgerTellsSpec.post enc Try.prog Try.f3 false true false false) := by
  refine returnsInHanded_of_change (C := Try.checked) Try.own started (by kernel_rfl) Try.func3
    (ChangeSpec.witness6 (enc := enc) (C := Try.checked) false ⟨#[], #[.slice none 0 0, .slice none 0 0, .int .u8 0], []⟩ 8 (by kernel_rfl) (by kernel_rfl) (by kernel_rfl) (by kernel_rfl)) ?_
  intro W base args ds gs before hval hW _ _
  have hW' := hW
  obtain ⟨p, q, hA, hV, rfl, hfz, hnd⟩ := hW
  rw [Try.params3] at hA hval
  obtain ⟨v0, v1, v2, d0, d1, d2, p0, p1, p2, rfl, rfl, rfl, h0, h1, h2⟩ := trodAll_three hA
  obtain ⟨a, l, ka, rfl, _, hF, hl, _, hI⟩ := open_grps (hval 0 22 v0 rfl rfl) h0
  obtain ⟨c, xs, kc, rfl, hS, hX, hm⟩ := open_sls (hval 1 23 v1 rfl rfl) h1
  obtain ⟨x, rfl, _, _, wx⟩ := open_int Try.underlying5 (hval 2 5 v2 rfl rfl) h2
  have hx : 0 ≤ x ∧ x ≤ 255 := by simpa [Lit.wf, IntKind.min, IntKind.max, IntKind.signed, IntKind.bits] using wx
  refine (walk a l ka c xs kc x W hx.1 hx.2 hF hl hI hS hX hm).mono fun e W' ⟨he, hb⟩ => ?_
  exact ⟨_, he, law_post Try.laidOut hW' rfl (by kernel_rfl) (by kernel_rfl) Try.underlying4 rfl rfl rfl hb⟩

theorem over : Rows.ledgerTellsRow.holds Try.pinned (OpenSpec.ofChange Rows.ledgerTellsSpec) :=
  OpenClaim.holds_of_wide 3 Try.f3 rfl rfl rfl rfl rfl rfl rfl ⟨rfl, rfl, rfl, rfl, rfl⟩ rfl rfl rfl rfl rfl (by kernel_rfl) Try.func3 (by kernel_rfl)
    (of_decide_eq_true (by kernel_rfl)) (by unfold Func.isWrapper; first | (rw [if_pos (by decide +kernel)]; kernel_rfl) | (rw [if_neg (by decide +kernel)]; exact ⟨rfl, rfl⟩))
    (fun os started H enc _ => lifted os started H enc)

/-- The statement. -/
theorem proved : Rows.LedgerTellsSaid := over
end ledgerTells
end Go.Proofs.Ytaipiflbigpniaa
