/-
  Copies of lists and machines; machines that are the same.
-/
import Derived.Test.YtmkdfcggjlhcpaaGreatDoorClPx
import Derived.Test.YtmkdfcggjlhcpaaGreatDoorMAx
import Derived.LaidEqlPtr
import Derived.Laws.OwnMore
namespace Go.Proofs.YtmkdfcggjlhcpaaGreatDoor
open Go.RowKit
set_option linter.unusedVariables false
set_option linter.unusedSimpArgs false
theorem info_cloud : Tryz.prog.info? 75 = some ((Tryz.prog.info? 75).getD default) := by kernel_rfl
theorem made_yes (b : Nat) (w : World) (c0 : w.cell? ⟨b, 0, none⟩ = some (.pointer (some ⟨b, 0, none⟩))) :
    Calls Tryz.prog 29 #[.pointer (some ⟨b, 0, none⟩)] w fun e w' => e = .returned (.bool true) ∧ w' = w := by
  have hq := run_eql_ptr_same (P := Tryz.prog) w ⟨b, 0, none⟩ Tryz.underlying38 info_cloud
  go_enter Tryz.func29, Tryz.ntmps29
  go_wp2
  go_ret
  exact ⟨rfl, rfl⟩
theorem made_nil (w : World) : Calls Tryz.prog 29 #[.pointer none] w fun e w' => e = .returned (.bool false) ∧ w' = w := by
  go_enter Tryz.func29, Tryz.ntmps29
  go_wp2
  go_ret
  exact ⟨rfl, rfl⟩
  theorem none_del (p : Option Addr) (g : ByteArray) (w : World) (hM : ∀ V, Below w.heap.size w V → Calls Tryz.prog 29 #[.pointer p] V fun e w' => e = .returned (.bool false) ∧ w' = V) :
      Calls Tryz.prog 9 #[.pointer p, .string g] w fun e w' => e = .returned (.int .i64 23) ∧ Below w.heap.size w w' := by
    have HM := Lib.hid hM
    clear hM
    go_enter Tryz.func9, Tryz.ntmps9
    go_wp2_with (go_at_call 29; (with_reducible refine (HM.out _ (by (repeat' (first | with_reducible exact Below.refl _ _ | with_reducible assumption | with_reducible refine Below.drew ?_ | with_reducible refine below_drewN' ?_ _ | with_reducible refine Below.alloc ?_ ?_ _ | with_reducible refine Below.setCell ?_ ?_ _ | with_reducible refine below_step (by assumption) ?_ ?_ | omega | (simp; done) | (simp; omega))))).mono ?_); rintro e w1 ⟨rfl, rfl⟩)
    go_ret
    exact ⟨rfl, by (repeat' (first | with_reducible exact Below.refl _ _ | with_reducible assumption | with_reducible refine Below.drew ?_ | with_reducible refine below_drewN' ?_ _ | with_reducible refine Below.alloc ?_ ?_ _ | with_reducible refine Below.setCell ?_ ?_ _ | with_reducible refine below_step (by assumption) ?_ ?_ | omega | (simp; done) | (simp; omega)))⟩
    theorem none_decr (p : Option Addr) (g : ByteArray) (n : Int) (w : World) (hM : ∀ V, Below w.heap.size w V → Calls Tryz.prog 29 #[.pointer p] V fun e w' => e = .returned (.bool false) ∧ w' = V) :
        Calls Tryz.prog 10 #[.pointer p, .string g, .int .i64 n] w fun e w' => e = .returned (.int .i64 23) ∧ Below w.heap.size w w' := by
      have HM := Lib.hid hM
      clear hM
      go_enter Tryz.func10, Tryz.ntmps10
      go_wp2_with (go_at_call 29; (with_reducible refine (HM.out _ (by (repeat' (first | with_reducible exact Below.refl _ _ | with_reducible assumption | with_reducible refine Below.drew ?_ | with_reducible refine below_drewN' ?_ _ | with_reducible refine Below.alloc ?_ ?_ _ | with_reducible refine Below.setCell ?_ ?_ _ | with_reducible refine below_step (by assumption) ?_ ?_ | omega | (simp; done) | (simp; omega))))).mono ?_); rintro e w1 ⟨rfl, rfl⟩)
      go_ret
      exact ⟨rfl, by (repeat' (first | with_reducible exact Below.refl _ _ | with_reducible assumption | with_reducible refine Below.drew ?_ | with_reducible refine below_drewN' ?_ _ | with_reducible refine Below.alloc ?_ ?_ _ | with_reducible refine Below.setCell ?_ ?_ _ | with_reducible refine below_step (by assumption) ?_ ?_ | omega | (simp; done) | (simp; omega)))⟩
        theorem none_fail (p : Option Addr) (g : ByteArray) (w : World) (hM : ∀ V, Below w.heap.size w V → Calls Tryz.prog 29 #[.pointer p] V fun e w' => e = .returned (.bool false) ∧ w' = V) :
            Calls Tryz.prog 11 #[.pointer p, .string g] w fun e w' => e = .returned (.int .i64 23) ∧ Below w.heap.size w w' := by
          have HM := Lib.hid hM
          clear hM
          go_enter Tryz.func11, Tryz.ntmps11
          go_wp2_with (go_at_call 29; (with_reducible refine (HM.out _ (by (repeat' (first | with_reducible exact Below.refl _ _ | with_reducible assumption | with_reducible refine Below.drew ?_ | with_reducible refine below_drewN' ?_ _ | with_reducible refine Below.alloc ?_ ?_ _ | with_reducible refine Below.setCell ?_ ?_ _ | with_reducible refine below_step (by assumption) ?_ ?_ | omega | (simp; done) | (simp; omega))))).mono ?_); rintro e w1 ⟨rfl, rfl⟩)
          go_ret
          exact ⟨rfl, by (repeat' (first | with_reducible exact Below.refl _ _ | with_reducible assumption | with_reducible refine Below.drew ?_ | with_reducible refine below_drewN' ?_ _ | with_reducible refine Below.alloc ?_ ?_ _ | with_reducible refine Below.setCell ?_ ?_ _ | with_reducible refine below_step (by assumption) ?_ ?_ | omega | (simp; done) | (simp; omega)))⟩
          theorem none_tick (p : Option Addr)  (w : World) (hM : ∀ V, Below w.heap.size w V → Calls Tryz.prog 29 #[.pointer p] V fun e w' => e = .returned (.bool false) ∧ w' = V) :
              Calls Tryz.prog 12 #[.pointer p] w fun e w' => e = .returned (.tuple #[]) ∧ Below w.heap.size w w' := by
            have HM := Lib.hid hM
            clear hM
            go_enter Tryz.func12, Tryz.ntmps12
            go_wp2_with (go_at_call 29; (with_reducible refine (HM.out _ (by (repeat' (first | with_reducible exact Below.refl _ _ | with_reducible assumption | with_reducible refine Below.drew ?_ | with_reducible refine below_drewN' ?_ _ | with_reducible refine Below.alloc ?_ ?_ _ | with_reducible refine Below.setCell ?_ ?_ _ | with_reducible refine below_step (by assumption) ?_ ?_ | omega | (simp; done) | (simp; omega))))).mono ?_); rintro e w1 ⟨rfl, rfl⟩)
            (refine bodyPost_ret (results_none rfl _ _ _) rfl ?_)
            exact ⟨rfl, by (repeat' (first | with_reducible exact Below.refl _ _ | with_reducible assumption | with_reducible refine Below.drew ?_ | with_reducible refine below_drewN' ?_ _ | with_reducible refine Below.alloc ?_ ?_ _ | with_reducible refine Below.setCell ?_ ?_ _ | with_reducible refine below_step (by assumption) ?_ ?_ | omega | (simp; done) | (simp; omega)))⟩
              theorem none_tgt (p : Option Addr) (g : ByteArray) (w : World) (hM : ∀ V, Below w.heap.size w V → Calls Tryz.prog 29 #[.pointer p] V fun e w' => e = .returned (.bool false) ∧ w' = V) :
                  Calls Tryz.prog 19 #[.pointer p, .string g] w fun e w' => e = .returned (.int .i64 0) ∧ Below w.heap.size w w' := by
                have HM := Lib.hid hM
                clear hM
                go_enter Tryz.func19, Tryz.ntmps19
                go_wp2_with (go_at_call 29; (with_reducible refine (HM.out _ (by (repeat' (first | with_reducible exact Below.refl _ _ | with_reducible assumption | with_reducible refine Below.drew ?_ | with_reducible refine below_drewN' ?_ _ | with_reducible refine Below.alloc ?_ ?_ _ | with_reducible refine Below.setCell ?_ ?_ _ | with_reducible refine below_step (by assumption) ?_ ?_ | omega | (simp; done) | (simp; omega))))).mono ?_); rintro e w1 ⟨rfl, rfl⟩)
                go_ret
                exact ⟨rfl, by (repeat' (first | with_reducible exact Below.refl _ _ | with_reducible assumption | with_reducible refine Below.drew ?_ | with_reducible refine below_drewN' ?_ _ | with_reducible refine Below.alloc ?_ ?_ _ | with_reducible refine Below.setCell ?_ ?_ _ | with_reducible refine below_step (by assumption) ?_ ?_ | omega | (simp; done) | (simp; omega)))⟩
                theorem none_insts (p : Option Addr)  (w : World) (hM : ∀ V, Below w.heap.size w V → Calls Tryz.prog 29 #[.pointer p] V fun e w' => e = .returned (.bool false) ∧ w' = V) :
                    Calls Tryz.prog 15 #[.pointer p] w fun e w' => e = .returned (.slice none 0 0) ∧ Below w.heap.size w w' := by
                  have HM := Lib.hid hM
                  clear hM
                  go_enter Tryz.func15, Tryz.ntmps15
                  go_wp2_with (go_at_call 29; (with_reducible refine (HM.out _ (by (repeat' (first | with_reducible exact Below.refl _ _ | with_reducible assumption | with_reducible refine Below.drew ?_ | with_reducible refine below_drewN' ?_ _ | with_reducible refine Below.alloc ?_ ?_ _ | with_reducible refine Below.setCell ?_ ?_ _ | with_reducible refine below_step (by assumption) ?_ ?_ | omega | (simp; done) | (simp; omega))))).mono ?_); rintro e w1 ⟨rfl, rfl⟩)
                  go_ret
                  exact ⟨rfl, by (repeat' (first | with_reducible exact Below.refl _ _ | with_reducible assumption | with_reducible refine Below.drew ?_ | with_reducible refine below_drewN' ?_ _ | with_reducible refine Below.alloc ?_ ?_ _ | with_reducible refine Below.setCell ?_ ?_ _ | with_reducible refine below_step (by assumption) ?_ ?_ | omega | (simp; done) | (simp; omega)))⟩
def prow (p : Pl) : List Value := [.int .i64 p.t, .int .i64 p.la, .bool p.br]
theorem prow_len (p : Pl) : (prow p).length = 3 := rfl
theorem grow_len (g : Gp) : (grow g).length = 15 := rfl
theorem own_same {w w' : World} {B : Nat} {v : Value} {n k : Nat} {e : TypeId} {xs : List Value} (h : w.ownsRow B e k v n xs) (hb : ∀ g, v.ownBlock = some g → w'.heap[g]? = w.heap[g]?) : w'.ownsRow B e k v n xs := by
  refine ⟨h.1, ?_⟩
  rcases h.2 with h | ⟨g, cap, cur, rfl, h1, h2, h3⟩
  · exact .inl h
  · exact .inr ⟨g, cap, cur, rfl, h1, (hb g rfl).trans h2, h3⟩
theorem own_lt {w : World} {B : Nat} {v : Value} {n k : Nat} {e : TypeId} {xs : List Value} (h : w.ownsRow B e k v n xs) {g : Nat} (hg : v.ownBlock = some g) : B ≤ g ∧ g < w.heap.size := by
  rcases h.2 with ⟨rfl, _⟩ | ⟨g', cap, cur, rfl, h1, h2, h3⟩
  · cases hg
  · obtain rfl : g' = g := Option.some.inj hg
    exact ⟨h1, (Array.getElem?_eq_some_iff.1 h2).1⟩
def TyAt (w : World) (g : Nat) (t : TypeId) : Prop := ∃ xs, w.heap[g]? = some (.cells xs t)
theorem TyAt.ne {w : World} {g q : Nat} {t t' : TypeId} (h : TyAt w g t) (h' : TyAt w q t') (ht : t ≠ t') : g ≠ q := fun e => by
  subst e
  obtain ⟨x, h⟩ := h
  obtain ⟨y, h'⟩ := h'
  rw [h] at h'
  injection h' with h'
  injection h' with _ h2
  exact ht h2
theorem own_ty {w : World} {B : Nat} {v : Value} {n k : Nat} {e : TypeId} {xs : List Value} (h : w.ownsRow B e k v n xs) {g : Nat} (hg : v.ownBlock = some g) : TyAt w g e := by
  rcases h.2 with ⟨rfl, _⟩ | ⟨g', cap, cur, rfl, h1, h2, h3⟩
  · cases hg
  · obtain rfl : g' = g := Option.some.inj hg
    exact ⟨_, h2⟩
theorem blk_ty {w : World} {b : Nat} {t : TypeId} {cs : List Value} (h : Blk w b t cs) : TyAt w b t := ⟨_, h⟩
structure MO (w : World) (base : Nat) (m : Mac) : Prop where
  l : w.ownsRow base 114 2 (.slice m.la m.labs.length m.lk) m.labs.length (m.labs.flatMap kcs)
  t : w.ownsRow base 119 3 (.slice m.ta m.tnts.length m.tk) m.tnts.length (m.tnts.flatMap tcs)
structure CT (w : World) (base b : Nat) (G : List Gp) (s : CS) (gv pv lv : Value) : Prop where
  row : Blk w b 75 [.pointer (some ⟨b, 0, none⟩), gv, pv, lv, .int .i64 s.dl, .int .i64 s.nw, .int .i64 s.ca]
  go : w.ownsRow base 37 15 gv G.length (G.flatMap grow)
  po : w.ownsRow base 78 3 pv s.P.length (s.P.flatMap prow)
  lo : w.ownsRow base 62 5 lv s.L.length (s.L.flatMap irow)
  ms : ∀ g ∈ G, MO w base g.like
  gk : G.map gkOf = s.G
  hb : base ≤ b
def blocksOf (b : Nat) (pv lv : Value) : List Nat := b :: (pv.ownBlock.toList ++ lv.ownBlock.toList)
section
variable {w w' : World} {base b : Nat} {G : List Gp} {s : CS} {gv pv lv : Value}
theorem CT.only {S : List Nat} (h : CT w base b G s gv pv lv) (ho : Only S w w') (hb : b ∉ S) (hg : ∀ g, gv.ownBlock = some g → g ∉ S) (hp : ∀ g, pv.ownBlock = some g → g ∉ S) (hl : ∀ g, lv.ownBlock = some g → g ∉ S)
    (hm : ∀ x ∈ G, ∀ g, ((Value.slice x.like.la x.like.labs.length x.like.lk).ownBlock = some g ∨ (Value.slice x.like.ta x.like.tnts.length x.like.tk).ownBlock = some g) → g ∉ S) : CT w' base b G s gv pv lv :=
  ⟨h.row.only ho hb, own_same h.go fun g e => ho.block g (own_lt h.go e).2 (hg g e), own_same h.po fun g e => ho.block g (own_lt h.po e).2 (hp g e), own_same h.lo fun g e => ho.block g (own_lt h.lo e).2 (hl g e),
    fun x hx => ⟨own_same (h.ms x hx).l fun g e => ho.block g (own_lt (h.ms x hx).l e).2 (hm x hx g (.inl e)), own_same (h.ms x hx).t fun g e => ho.block g (own_lt (h.ms x hx).t e).2 (hm x hx g (.inr e))⟩, h.gk, h.hb⟩
theorem CT.below (h : CT w base b G s gv pv lv) (hb : Below w.heap.size w w') : CT w' base b G s gv pv lv :=
  h.only (Only.of_below (S := []) hb) (by simp) (fun _ _ => by simp) (fun _ _ => by simp) (fun _ _ => by simp) (fun _ _ _ _ => by simp)
theorem CT.groups (h : CT w base b G s gv pv lv) : ∃ a k, gv = .slice a G.length k ∧ GpL w a G := by
  obtain ⟨a, k, e, hc⟩ := own_rows grow_len h.go (by decide)
  refine ⟨a, k, e, fun h0 => ?_⟩
  obtain ⟨g, h1, h2, h3, h4⟩ := hc h0
  exact ⟨g, 0, h1, h3, h4⟩
theorem CT.pools (h : CT w base b G s gv pv lv) : ∃ a k, pv = .slice a s.P.length k ∧ (0 < s.P.length → ∃ g, a = some ⟨g, 0, none⟩ ∧ base ≤ g ∧ g < w.heap.size ∧ ∀ i x, s.P[i]? = some x → w.cell? ⟨g, i * 3, none⟩ = some (.int .i64 x.t) ∧ w.cell? ⟨g, i * 3 + 1, none⟩ = some (.int .i64 x.la) ∧ w.cell? ⟨g, i * 3 + 2, none⟩ = some (.bool x.br)) := by
  obtain ⟨a, k, e, hc⟩ := own_rows prow_len h.po (by decide)
  refine ⟨a, k, e, fun h0 => ?_⟩
  obtain ⟨g, h1, h2, h3, h4⟩ := hc h0
  refine ⟨g, h1, h2, h3, fun i x hx => ?_⟩
  have h5 := h4 i x hx
  simp only [Nat.zero_add] at h5
  exact ⟨h5 0 (by decide), h5 1 (by decide), h5 2 (by decide)⟩
theorem CT.insts (h : CT w base b G s gv pv lv) : ∃ a k, lv = .slice a s.L.length k ∧ (0 < s.L.length → ∃ g, a = some ⟨g, 0, none⟩ ∧ base ≤ g ∧ g < w.heap.size ∧ ∀ i x, s.L[i]? = some x → w.cell? ⟨g, i * 5, none⟩ = some (.string x.nm) ∧ w.cell? ⟨g, i * 5 + 1, none⟩ = some (.string x.gp) ∧ w.cell? ⟨g, i * 5 + 2, none⟩ = some (.int .i64 x.st) ∧ w.cell? ⟨g, i * 5 + 3, none⟩ = some (.int .i64 x.lf) ∧ w.cell? ⟨g, i * 5 + 4, none⟩ = some (.int .i64 x.si)) := by
  obtain ⟨a, k, e, hc⟩ := own_rows irow_len h.lo (by decide)
  refine ⟨a, k, e, fun h0 => ?_⟩
  obtain ⟨g, h1, h2, h3, h4⟩ := hc h0
  refine ⟨g, h1, h2, h3, fun i x hx => ?_⟩
  have h5 := h4 i x hx
  simp only [Nat.zero_add] at h5
  exact ⟨h5 0 (by decide), h5 1 (by decide), h5 2 (by decide), h5 3 (by decide), h5 4 (by decide)⟩
theorem CT.list (h : CT w base b G s gv pv lv) (a : Option Addr) (k : Nat) (e : lv = .slice a s.L.length k) : InsL w a s.L := by
  subst e
  obtain ⟨a', k', e', hc⟩ := own_rows irow_len h.lo (by decide)
  injection e' with e1 e2 e3
  subst e1
  exact fun h0 => by
    obtain ⟨g, h1, h2, h3, h4⟩ := hc h0
    exact ⟨g, 0, h1, h3, h4⟩
end
set_option maxRecDepth 100000 in
theorem place_any (base b : Nat) (G : List Gp) (s : CS) (gv pv lv : Value) (key : ByteArray) (w : World) (h : CT w base b G s gv pv lv) (hG : G.length ≤ maxLen) :
    Calls Tryz.prog 30 #[.pointer (some ⟨b, 0, none⟩), .string key] w fun e w' => e = .returned (.int .i64 (findA G key 0)) ∧ Below w.heap.size w w' := by
  obtain ⟨a, k, rfl, hF⟩ := h.groups
  have c1 := h.row.cell 1
  dsimp only [List.getElem?_cons_zero, List.getElem?_cons_succ] at c1
  have HF := Lib.hid hF
  have hbl := h.row.lt
  clear h hF
  go_enter Tryz.func30, Tryz.ntmps30
  go_wp2_with (go_at_call 38; (with_reducible refine (find_any a G k key _ (HF.out.mono (by (repeat' (first | with_reducible exact Below.refl _ _ | with_reducible assumption | with_reducible refine Below.drew ?_ | with_reducible refine below_drewN' ?_ _ | with_reducible refine Below.alloc ?_ ?_ _ | with_reducible refine Below.setCell ?_ ?_ _ | with_reducible refine below_step (by assumption) ?_ ?_ | omega | (simp; done) | (simp; omega))))) hG).mono ?_); rintro e w1 ⟨rfl, hb1⟩)
  go_ret
  exact ⟨rfl, by (repeat' (first | with_reducible exact Below.refl _ _ | with_reducible assumption | with_reducible refine Below.drew ?_ | with_reducible refine below_drewN' ?_ _ | with_reducible refine Below.alloc ?_ ?_ _ | with_reducible refine Below.setCell ?_ ?_ _ | with_reducible refine below_step (by assumption) ?_ ?_ | omega | (simp; done) | (simp; omega)))⟩
set_option maxRecDepth 100000 in
set_option maxHeartbeats 4000000 in
theorem target_any (base b : Nat) (G : List Gp) (s : CS) (gv pv lv : Value) (key : ByteArray) (w : World) (h : CT w base b G s gv pv lv) (hG : G.length ≤ 1000) (hP : s.P.length = s.G.length) :
    Calls Tryz.prog 19 #[.pointer (some ⟨b, 0, none⟩), .string key] w fun e w' => e = .returned (.int .i64 (s.tgt key)) ∧ Below w.heap.size w w' := by
  have c0 := h.row.cell 0
  have c2 := h.row.cell 2
  dsimp only [List.getElem?_cons_zero, List.getElem?_cons_succ] at c0 c2
  have HL := Lib.hid (fun V (hb : Below w.heap.size w V) => place_any base b G s gv pv lv key V (h.below hb) (by unfold maxLen; omega))
  obtain ⟨a, k, rfl, hR⟩ := h.pools
  have hbl := h.row.lt
  have hgk := h.gk
  have HR := Lib.hid hR
  have hz : G.length = s.G.length := by rw [← hgk, List.length_map]
  obtain ⟨n, hn⟩ : ∃ n, s.P.length = n := ⟨_, rfl⟩
  have Hn := Lib.hid hn
  rw [hn] at c2 hP
  clear h hR hn
  cases hf : fndK s.G key with
  | none =>
    have hT : s.tgt key = 0 := by unfold CS.tgt; rw [hf]
    have hA : findA G key 0 = -1 := findA_none (by rw [hgk]; exact hf)
    rw [hA] at HL
    rw [hT]
    clear hf hgk
    go_enter Tryz.func19, Tryz.ntmps19
    go_wp2_with (first
      | (go_at_call 29; (with_reducible refine (made_yes b _ c0).mono ?_); rintro e w1 ⟨rfl, rfl⟩)
      | (go_at_call 30; (with_reducible refine (HL.out _ (by (repeat' (first | with_reducible exact Below.refl _ _ | with_reducible assumption | with_reducible refine Below.drew ?_ | with_reducible refine below_drewN' ?_ _ | with_reducible refine Below.alloc ?_ ?_ _ | with_reducible refine Below.setCell ?_ ?_ _ | with_reducible refine below_step (by assumption) ?_ ?_ | omega | (simp; done) | (simp; omega))))).mono ?_); rintro e w2 ⟨rfl, hb2⟩; have HB2 := Lib.hid hb2))
    go_ret
    exact ⟨rfl, HB2.out⟩
  | some j =>
    obtain ⟨g, hg, _⟩ := fndK_lt hf
    have hjn : j < n := by have := lt_at hg; omega
    obtain ⟨p, hp⟩ := mem_at (l := s.P) (k := j) (by rw [Hn.out]; exact hjn)
    have hT : s.tgt key = p.t := by
      unfold CS.tgt
      rw [hf]
      dsimp only
      rw [hp]
    have hA : findA G key 0 = (j : Int) := findA_some (by rw [hgk]; exact hf)
    rw [hA] at HL
    rw [hT]
    obtain ⟨q, rfl, _, hq, hc⟩ := HR.out (by rw [Hn.out]; omega)
    obtain ⟨d0, _, _⟩ := hc j p hp
    have k1 : decide ((j : Int) < 0) = false := decide_eq_false (by omega)
    clear hf hgk hg hp hc
    go_enter Tryz.func19, Tryz.ntmps19
    go_wp2_with (first
      | (go_at_call 29; (with_reducible refine (made_yes b _ c0).mono ?_); rintro e w1 ⟨rfl, rfl⟩)
      | (go_at_call 30; (with_reducible refine (HL.out _ (by (repeat' (first | with_reducible exact Below.refl _ _ | with_reducible assumption | with_reducible refine Below.drew ?_ | with_reducible refine below_drewN' ?_ _ | with_reducible refine Below.alloc ?_ ?_ _ | with_reducible refine Below.setCell ?_ ?_ _ | with_reducible refine below_step (by assumption) ?_ ?_ | omega | (simp; done) | (simp; omega))))).mono ?_); rintro e w2 ⟨rfl, hb2⟩; have HB2 := Lib.hid hb2; obtain ⟨hc2, hf2⟩ := bcell hb2))
    go_ret
    exact ⟨rfl, HB2.out⟩
def plI (L : List Ins) (s : ByteArray) : Int := match fndI L s with | none => -1 | some j => j
theorem fndI_at {s : ByteArray} : ∀ {L : List Ins} {k : Nat} {x : Ins}, L[k]? = some x → x.nm = s → (∀ (j : Nat) (y : Ins), j < k → L[j]? = some y → y.nm ≠ s) → fndI L s = some k
  | [], k, x, h, _, _ => by simp at h
  | y :: L, 0, x, h, hx, _ => by
    obtain rfl : y = x := by simpa using h
    exact if_pos hx
  | y :: L, k + 1, x, h, hx, hn => by
    unfold fndI
    rw [if_neg (hn 0 y (by omega) rfl), fndI_at (L := L) (k := k) (x := x) (by simpa using h) hx fun j z hj hz => hn (j + 1) z (by omega) (by simpa using hz)]
    rfl
theorem fndI_none {s : ByteArray} : ∀ {L : List Ins}, (∀ (j : Nat) (y : Ins), L[j]? = some y → y.nm ≠ s) → fndI L s = none
  | [], _ => rfl
  | y :: L, hn => by
    unfold fndI
    rw [if_neg (hn 0 y rfl), fndI_none (L := L) fun j z hz => hn (j + 1) z (by simpa using hz)]
    rfl
def nmB (a b : ByteArray) : Bool := decide (a = b)
theorem nmB_list (a b : ByteArray) : (a.toList == b.toList) = nmB a b := by
  unfold nmB
  by_cases h : a = b
  · subst h; simp
  · rw [decide_eq_false h, beq_eq_false_iff_ne]
    intro e
    rw [ByteArray.toList_eq, ByteArray.toList_eq] at e
    exact h (ByteArray.ext (Array.toList_inj.1 e))
set_option maxRecDepth 100000 in
set_option maxHeartbeats 1000000 in
theorem cfc_any (x : Ins) (key : ByteArray) (b : Nat) (w : World) (hb : b < w.heap.size) (hc : w.cell? ⟨b, 0, none⟩ = some (.string key)) :
    Calls Tryz.prog 54 #[.agg #[.string x.nm, .string x.gp, .int .i64 x.st, .int .i64 x.lf, .int .i64 x.si], .pointer (some ⟨b, 0, none⟩)] w fun e w' => e = .returned (.bool (nmB x.nm key)) ∧ Below w.heap.size w w' := by
  have He := Lib.hid (nmB_list x.nm key)
  cases h : nmB x.nm key
  all_goals
    have hd := He.out
    rw [h] at hd
    have H := Lib.hid h
    clear h
    go_enter Tryz.func54, Tryz.ntmps54
    go_wp2
    go_ret
    exact ⟨rfl, by (repeat' (first | with_reducible exact Below.refl _ _ | with_reducible assumption | with_reducible refine Below.drew ?_ | with_reducible refine below_drewN' ?_ _ | with_reducible refine Below.alloc ?_ ?_ _ | with_reducible refine Below.setCell ?_ ?_ _ | with_reducible refine below_step (by assumption) ?_ ?_ | omega | (simp; done) | (simp; omega)))⟩
set_option maxRecDepth 100000 in
set_option maxHeartbeats 2000000 in
theorem idxf_any (a : Option Addr) (L : List Ins) (ka : Nat) (key : ByteArray) (b : Nat) (w : World) (hI : InsL w a L) (hn : L.length ≤ 1000000) (hb : b < w.heap.size) (hc : w.cell? ⟨b, 0, none⟩ = some (.string key)) :
    Calls Tryz.prog 53 #[.slice a L.length ka, .func (.func 54) #[] #[.pointer (some ⟨b, 0, none⟩)]] w fun e w' => e = .returned (.int .i64 (plI L key)) ∧ Below w.heap.size w w' := by
  have HI := Lib.hid hI
  have Hc := Lib.hid hc
  obtain ⟨n, hln⟩ : ∃ n, L.length = n := ⟨_, rfl⟩
  have Hln := Lib.hid hln
  rw [hln] at hn ⊢
  clear hI hc hln
  go_enter Tryz.func53, Tryz.ntmps53
  go_wp2
  go_loopw [8] (fun i wr => ∃ k : Nat, k ≤ n ∧ i = .int .i64 k ∧ Below w.heap.size w wr ∧ ∀ (j : Nat) (y : Ins), j < k → L[j]? = some y → y.nm ≠ key) (fun i _ => n - (intOf i).toNat)
  case atStart => exact ⟨0, by omega, rfl, by (repeat' (first | with_reducible exact Below.refl _ _ | with_reducible assumption | with_reducible refine Below.drew ?_ | with_reducible refine below_drewN' ?_ _ | with_reducible refine Below.alloc ?_ ?_ _ | with_reducible refine Below.setCell ?_ ?_ _ | with_reducible refine below_step (by assumption) ?_ ?_ | omega | (simp; done) | (simp; omega))), fun j y hj => by omega⟩
  case round =>
    obtain ⟨k, hk, rfl, hB, hE⟩ := hrel
    obtain ⟨hcB, hfB⟩ := bcell hB
    have HE := Lib.hid hE
    have hzB := hB.size
    clear hE
    by_cases hlt : k < n
    · obtain ⟨x, hx⟩ := mem_at (l := L) (k := k) (by rw [Hln.out]; exact hlt)
      obtain ⟨b2, off, rfl, hb2, hc2⟩ := HI.out (by rw [Hln.out]; omega)
      have hbw2 : b2 < wr.heap.size := by omega
      have hbw : b < wr.heap.size := by omega
      obtain ⟨c0, c1, c2, c3, c4⟩ := irow_cells (hc2 k x hx)
      have Hx := Lib.hid hx
      have HF := Lib.hid (fun V (hV : Below wr.heap.size wr V) => cfc_any x key b V (Nat.lt_of_lt_of_le hbw hV.size) ((hV.cell (p := ⟨b, 0, none⟩) hbw).trans ((hcB b 0 hb).trans Hc.out)))
      clear hc2 hx
      by_cases he : x.nm = key
      · have hv : nmB x.nm key = true := decide_eq_true he
        have Hr := Lib.hid (show plI L key = k by unfold plI; rw [fndI_at Hx.out he HE.out])
        rw [hv] at HF
        clear he hv
        go_wp2_with (go_at_call 54; (with_reducible refine (HF.out _ (by (repeat' (first | with_reducible exact Below.refl _ _ | with_reducible assumption | with_reducible refine Below.drew ?_ | with_reducible refine below_drewN' ?_ _ | with_reducible refine Below.alloc ?_ ?_ _ | with_reducible refine Below.setCell ?_ ?_ _ | with_reducible refine below_step (by assumption) ?_ ?_ | omega | (simp; done) | (simp; omega))))).mono ?_); rintro e w1 ⟨rfl, hb1⟩)
        go_ret
        exact ⟨by rw [Hr.out]; rfl, by (repeat' (first | with_reducible exact Below.refl _ _ | with_reducible assumption | with_reducible refine Below.drew ?_ | with_reducible refine below_drewN' ?_ _ | with_reducible refine Below.alloc ?_ ?_ _ | with_reducible refine Below.setCell ?_ ?_ _ | with_reducible refine below_step (by assumption) ?_ ?_ | omega | (simp; done) | (simp; omega)))⟩
      · have hv : nmB x.nm key = false := decide_eq_false he
        have He := Lib.hid (show ∀ (j : Nat) (y : Ins), j < k + 1 → L[j]? = some y → y.nm ≠ key from fun j y hj hy => by
          by_cases e : j < k
          · exact HE.out j y e hy
          · obtain rfl : j = k := by omega
            rw [Hx.out] at hy
            obtain rfl := Option.some.inj hy
            exact he)
        rw [hv] at HF
        clear he hv
        go_wp2_with (go_at_call 54; (with_reducible refine (HF.out _ (by (repeat' (first | with_reducible exact Below.refl _ _ | with_reducible assumption | with_reducible refine Below.drew ?_ | with_reducible refine below_drewN' ?_ _ | with_reducible refine Below.alloc ?_ ?_ _ | with_reducible refine Below.setCell ?_ ?_ _ | with_reducible refine below_step (by assumption) ?_ ?_ | omega | (simp; done) | (simp; omega))))).mono ?_); rintro e w1 ⟨rfl, hb1⟩)
        go_roundw
        case rel => exact ⟨k + 1, by omega, by go_num, by (repeat' (first | with_reducible exact Below.refl _ _ | with_reducible assumption | with_reducible refine Below.drew ?_ | with_reducible refine below_drewN' ?_ _ | with_reducible refine Below.alloc ?_ ?_ _ | with_reducible refine Below.setCell ?_ ?_ _ | with_reducible refine below_step (by assumption) ?_ ?_ | omega | (simp; done) | (simp; omega))), He.out⟩
        case measure => simp [intOf]; omega
    · obtain rfl : k = n := by omega
      have Hr := Lib.hid (show plI L key = -1 by unfold plI; rw [fndI_none (s := key) (L := L) fun j y hy => HE.out j y (by have := lt_at hy; rw [Hln.out] at this; exact this) hy])
      go_wp2
      go_ret
      exact ⟨by rw [Hr.out]; rfl, by (repeat' (first | with_reducible exact Below.refl _ _ | with_reducible assumption | with_reducible refine Below.drew ?_ | with_reducible refine below_drewN' ?_ _ | with_reducible refine Below.alloc ?_ ?_ _ | with_reducible refine Below.setCell ?_ ?_ _ | with_reducible refine below_step (by assumption) ?_ ?_ | omega | (simp; done) | (simp; omega)))⟩
set_option maxRecDepth 100000 in
theorem cfind_any (base b : Nat) (G : List Gp) (s : CS) (gv pv lv : Value) (key : ByteArray) (w : World) (h : CT w base b G s gv pv lv) (hL : s.L.length ≤ 1000000) :
    Calls Tryz.prog 31 #[.pointer (some ⟨b, 0, none⟩), .string key] w fun e w' => e = .returned (.int .i64 (plI s.L key)) ∧ Below w.heap.size w w' := by
  have c3 := h.row.cell 3
  dsimp only [List.getElem?_cons_zero, List.getElem?_cons_succ] at c3
  have HI := Lib.hid h.list
  obtain ⟨a, k, rfl, -⟩ := h.insts
  have hbl := h.row.lt
  have HL := Lib.hid hL
  obtain ⟨M, hM⟩ : ∃ M, s.L = M := ⟨_, rfl⟩
  rw [hM] at HI HL c3 ⊢
  clear h hL hM
  go_enter Tryz.func31, Tryz.ntmps31
  go_wp2_with (go_at_call 53; (with_reducible refine (idxf_any a M k key w.heap.size _ ((HI.out a k rfl).mono (by (repeat' (first | with_reducible exact Below.refl _ _ | with_reducible assumption | with_reducible refine Below.drew ?_ | with_reducible refine below_drewN' ?_ _ | with_reducible refine Below.alloc ?_ ?_ _ | with_reducible refine Below.setCell ?_ ?_ _ | with_reducible refine below_step (by assumption) ?_ ?_ | omega | (simp; done) | (simp; omega))))) HL.out (by simp) (by simp [go_sem])).mono ?_); rintro e w1 ⟨rfl, hb1⟩)
  go_ret
  exact ⟨rfl, by (repeat' (first | with_reducible exact Below.refl _ _ | with_reducible assumption | with_reducible refine Below.drew ?_ | with_reducible refine below_drewN' ?_ _ | with_reducible refine Below.alloc ?_ ?_ _ | with_reducible refine Below.setCell ?_ ?_ _ | with_reducible refine below_step (by assumption) ?_ ?_ | omega | (simp; done) | (simp; omega)))⟩
theorem flat_set {α : Type} {enc : α → List Value} {K : Nat} (hk : ∀ x, (enc x).length = K) : ∀ (l : List α) (j : Nat) (x y : α) (r : Nat) (v : Value), l[j]? = some x → r < K → enc y = (enc x).set r v → (l.flatMap enc).set (j * K + r) v = (l.set j y).flatMap enc
  | [], j, x, y, r, v, h, _, _ => by simp at h
  | z :: l, 0, x, y, r, v, h, hr, e => by
    obtain rfl : z = x := by simpa using h
    rw [Nat.zero_mul, Nat.zero_add, List.set_cons_zero, List.flatMap_cons, List.flatMap_cons, List.set_append_left _ _ (by rw [hk]; exact hr), e]
  | z :: l, j + 1, x, y, r, v, h, hr, e => by
    have ih := flat_set hk l j x y r v (by simpa using h) hr e
    have e1 : (j + 1) * K + r = (enc z).length + (j * K + r) := by rw [hk, Nat.succ_mul]; omega
    rw [e1, List.set_cons_succ, List.flatMap_cons, List.flatMap_cons, List.set_append_right _ _ (by omega), Nat.add_sub_cancel_left, ih]
theorem own_slice {w : World} {B : Nat} {v : Value} {n k : Nat} {e : TypeId} {xs : List Value} (h : w.ownsRow B e k v n xs) {g : Nat} (hg : v.ownBlock = some g) : ∃ c, v = .slice (some ⟨g, 0, none⟩) n c := by
  rcases h.2 with ⟨rfl, _⟩ | ⟨g', cap, cur, rfl, h1, h2, h3⟩
  · cases hg
  · obtain rfl : g' = g := Option.some.inj hg
    exact ⟨cap, rfl⟩
section
variable {w : World} {base b : Nat} {G : List Gp} {s : CS} {gv pv lv : Value}
theorem CT.pset (h : CT w base b G s gv pv lv) {g : Nat} (hg : pv.ownBlock = some g) {j r : Nat} {x y : Pl} {v : Value} (hx : s.P[j]? = some x) (hr : r < 3) (e : prow y = (prow x).set r v) :
    CT (w.setCell ⟨g, j * 3 + r, none⟩ v) base b G { s with P := s.P.set j y } gv pv lv := by
  have tp := own_ty h.po hg
  have hb : b ≠ g := (blk_ty h.row).ne tp (by decide)
  have N : ∀ {q : Nat} {t : TypeId}, TyAt w q t → t ≠ 78 → q ≠ g := fun hq ht => hq.ne tp ht
  obtain ⟨c, rfl⟩ := own_slice h.po hg
  refine ⟨h.row.other (p := ⟨g, j * 3 + r, none⟩) hb v, own_same h.go fun q hq => Below.heap_setCell _ _ _ _ (N (own_ty h.go hq) (by decide)), ?_, own_same h.lo fun q hq => Below.heap_setCell _ _ _ _ (N (own_ty h.lo hq) (by decide)), ?_, h.gk, h.hb⟩
  · have h9 := (h.po.stored (j * 3 + r) v).1
    rw [flat_set prow_len s.P j x y r v hx hr e] at h9
    rw [List.length_set]
    exact h9
  · exact fun m hm => ⟨own_same (h.ms m hm).l fun q hq => Below.heap_setCell _ _ _ _ (N (own_ty (h.ms m hm).l hq) (by decide)), own_same (h.ms m hm).t fun q hq => Below.heap_setCell _ _ _ _ (N (own_ty (h.ms m hm).t hq) (by decide))⟩
theorem CT.iset (h : CT w base b G s gv pv lv) {g : Nat} (hg : lv.ownBlock = some g) {j r : Nat} {x y : Ins} {v : Value} (hx : s.L[j]? = some x) (hr : r < 5) (e : irow y = (irow x).set r v) :
    CT (w.setCell ⟨g, j * 5 + r, none⟩ v) base b G { s with L := s.L.set j y } gv pv lv := by
  have tp := own_ty h.lo hg
  have hb : b ≠ g := (blk_ty h.row).ne tp (by decide)
  have N : ∀ {q : Nat} {t : TypeId}, TyAt w q t → t ≠ 62 → q ≠ g := fun hq ht => hq.ne tp ht
  obtain ⟨c, rfl⟩ := own_slice h.lo hg
  refine ⟨h.row.other (p := ⟨g, j * 5 + r, none⟩) hb v, own_same h.go fun q hq => Below.heap_setCell _ _ _ _ (N (own_ty h.go hq) (by decide)), own_same h.po fun q hq => Below.heap_setCell _ _ _ _ (N (own_ty h.po hq) (by decide)), ?_, ?_, h.gk, h.hb⟩
  · have h9 := (h.lo.stored (j * 5 + r) v).1
    rw [flat_set irow_len s.L j x y r v hx hr e] at h9
    rw [List.length_set]
    exact h9
  · exact fun m hm => ⟨own_same (h.ms m hm).l fun q hq => Below.heap_setCell _ _ _ _ (N (own_ty (h.ms m hm).l hq) (by decide)), own_same (h.ms m hm).t fun q hq => Below.heap_setCell _ _ _ _ (N (own_ty (h.ms m hm).t hq) (by decide))⟩
theorem CT.rset {s' : CS} (h : CT w base b G s gv pv lv) (i : Nat) (v : Value) (hr : [.pointer (some ⟨b, 0, none⟩), gv, pv, lv, .int .i64 s'.dl, .int .i64 s'.nw, .int .i64 s'.ca] = ([.pointer (some ⟨b, 0, none⟩), gv, pv, lv, .int .i64 s.dl, .int .i64 s.nw, .int .i64 s.ca] : List Value).set i v) (hP : s'.P = s.P) (hL : s'.L = s.L) (hG : s'.G = s.G) :
    CT (w.setCell ⟨b, i, none⟩ v) base b G s' gv pv lv := by
  have tb := blk_ty h.row
  have N : ∀ {q : Nat} {t : TypeId}, TyAt w q t → t ≠ 75 → q ≠ b := fun hq ht => hq.ne tb ht
  refine ⟨by rw [hr]; exact h.row.set i v, own_same h.go fun q hq => Below.heap_setCell _ _ _ _ (N (own_ty h.go hq) (by decide)), ?_, ?_, ?_, by rw [hG]; exact h.gk, h.hb⟩
  · rw [hP]
    exact own_same h.po fun q hq => Below.heap_setCell _ _ _ _ (N (own_ty h.po hq) (by decide))
  · rw [hL]
    exact own_same h.lo fun q hq => Below.heap_setCell _ _ _ _ (N (own_ty h.lo hq) (by decide))
  · exact fun m hm => ⟨own_same (h.ms m hm).l fun q hq => Below.heap_setCell _ _ _ _ (N (own_ty (h.ms m hm).l hq) (by decide)), own_same (h.ms m hm).t fun q hq => Below.heap_setCell _ _ _ _ (N (own_ty (h.ms m hm).t hq) (by decide))⟩
end
theorem ctx_eq {a b : ByteArray} (h : a = b) : (a.toList == b.toList) = true := by rw [h]; simp
theorem ctx_ne {a b : ByteArray} (h : ¬ a = b) : (a.toList == b.toList) = false := by rw [nmB_list]; exact decide_eq_false h
theorem sizeI_le (L : List Ins) (s : ByteArray) : sizeI L s ≤ L.length := List.countP_le_length
theorem sizeI_take {L : List Ins} {k : Nat} {x : Ins} (h : L[k]? = some x) (s : ByteArray) : sizeI (L.take (k + 1)) s = sizeI (L.take k) s + if x.gp = s ∧ x.st ≠ 3 then 1 else 0 := by
  unfold sizeI
  rw [take_at h, List.countP_append, List.countP_cons, List.countP_nil]
  by_cases e : x.gp = s <;> by_cases e2 : x.st = 3 <;> simp [e, e2]
set_option maxRecDepth 100000 in
set_option maxHeartbeats 4000000 in
theorem size_any (base b : Nat) (G : List Gp) (s : CS) (gv pv lv : Value) (key : ByteArray) (w : World) (h : CT w base b G s gv pv lv) (hL : s.L.length ≤ 1000000) :
    Calls Tryz.prog 32 #[.pointer (some ⟨b, 0, none⟩), .string key] w fun e w' => e = .returned (.int .i64 (sizeI s.L key)) ∧ Below w.heap.size w w' := by
  have c3 := h.row.cell 3
  dsimp only [List.getElem?_cons_zero, List.getElem?_cons_succ] at c3
  have hbl := h.row.lt
  obtain ⟨a, k0, rfl, -⟩ := h.insts
  have HI := Lib.hid (h.list a k0 rfl)
  obtain ⟨L, hM⟩ : ∃ L, s.L = L := ⟨_, rfl⟩
  rw [hM] at HI c3 hL ⊢
  obtain ⟨n, hn⟩ : ∃ n, L.length = n := ⟨_, rfl⟩
  have Hn := Lib.hid hn
  rw [hn] at hL c3
  clear h hM hn
  go_enter Tryz.func32, Tryz.ntmps32
  go_wp2
  go_loopw [5, 13] (fun vn vi wr => ∃ k : Nat, k ≤ n ∧ vi = .int .i64 k ∧ vn = .int .i64 (sizeI (L.take k) key) ∧ Below w.heap.size w wr) (fun _ vi _ => n - (intOf vi).toNat)
  case atStart => exact ⟨0, Nat.zero_le _, rfl, rfl, by (repeat' (first | with_reducible exact Below.refl _ _ | with_reducible assumption | with_reducible refine Below.drew ?_ | with_reducible refine below_drewN' ?_ _ | with_reducible refine Below.alloc ?_ ?_ _ | with_reducible refine Below.setCell ?_ ?_ _ | with_reducible refine below_step (by assumption) ?_ ?_ | omega | (simp; done) | (simp; omega)))⟩
  case round =>
    obtain ⟨k, hk, rfl, rfl, hB⟩ := hrel
    obtain ⟨hcB, hfB⟩ := bcell hB
    have hzB := hB.size
    by_cases hlt : k < n
    · obtain ⟨x, hx⟩ := mem_at (l := L) (k := k) (by rw [Hn.out]; exact hlt)
      obtain ⟨q, o, rfl, hq, hc⟩ := HI.out (by rw [Hn.out]; omega)
      have hqw : q < wr.heap.size := by omega
      obtain ⟨d0, d1, d2, d3, d4⟩ := irow_cells (hc k x hx)
      have hst := Lib.hid (sizeI_take hx key)
      have hcl := sizeI_le (L.take k) key
      have h8 : (L.take k).length ≤ k := List.length_take_le _ _
      obtain ⟨z, hz⟩ : ∃ z, sizeI (L.take k) key = z := ⟨_, rfl⟩
      rw [hz] at hcl hst ⊢
      have Hz := Lib.hid hz
      clear hc hx hz
      by_cases hg : x.gp = key
      · have k1 := ctx_eq hg
        by_cases h3 : x.st = 3
        · have k3 : (x.st != 3) = false := by rw [h3]; rfl
          have He := Lib.hid (show sizeI (L.take (k + 1)) key = z from by rw [hst.out, if_neg (fun h => h.2 h3)]; rfl)
          clear h3 hg
          go_wp2
          go_roundw
          case rel => exact ⟨k + 1, by omega, by go_num, by rw [He.out], by (repeat' (first | with_reducible exact Below.refl _ _ | with_reducible assumption | with_reducible refine Below.drew ?_ | with_reducible refine below_drewN' ?_ _ | with_reducible refine Below.alloc ?_ ?_ _ | with_reducible refine Below.setCell ?_ ?_ _ | with_reducible refine below_step (by assumption) ?_ ?_ | omega | (simp; done) | (simp; omega)))⟩
          case measure => simp [intOf]; omega
        · have k3 : (x.st != 3) = true := by simpa using h3
          have He := Lib.hid (show sizeI (L.take (k + 1)) key = z + 1 from by rw [hst.out, if_pos ⟨hg, h3⟩])
          clear h3 hg
          go_wp2
          go_roundw
          case rel => exact ⟨k + 1, by omega, by go_num, by rw [He.out]; go_num, by (repeat' (first | with_reducible exact Below.refl _ _ | with_reducible assumption | with_reducible refine Below.drew ?_ | with_reducible refine below_drewN' ?_ _ | with_reducible refine Below.alloc ?_ ?_ _ | with_reducible refine Below.setCell ?_ ?_ _ | with_reducible refine below_step (by assumption) ?_ ?_ | omega | (simp; done) | (simp; omega)))⟩
          case measure => simp [intOf]; omega
      · have k1 := ctx_ne hg
        have He := Lib.hid (show sizeI (L.take (k + 1)) key = z from by rw [hst.out, if_neg (fun h => hg h.1)]; rfl)
        clear hg
        go_wp2
        go_roundw
        case rel => exact ⟨k + 1, by omega, by go_num, by rw [He.out], by (repeat' (first | with_reducible exact Below.refl _ _ | with_reducible assumption | with_reducible refine Below.drew ?_ | with_reducible refine below_drewN' ?_ _ | with_reducible refine Below.alloc ?_ ?_ _ | with_reducible refine Below.setCell ?_ ?_ _ | with_reducible refine below_step (by assumption) ?_ ?_ | omega | (simp; done) | (simp; omega)))⟩
        case measure => simp [intOf]; omega
    · obtain rfl : k = n := by omega
      have He := Lib.hid (show sizeI (L.take k) key = sizeI L key by rw [List.take_of_length_le (Nat.le_of_eq Hn.out)])
      go_wp2
      go_ret
      exact ⟨by rw [← He.out]; rfl, by (repeat' (first | with_reducible exact Below.refl _ _ | with_reducible assumption | with_reducible refine Below.drew ?_ | with_reducible refine below_drewN' ?_ _ | with_reducible refine Below.alloc ?_ ?_ _ | with_reducible refine Below.setCell ?_ ?_ _ | with_reducible refine below_step (by assumption) ?_ ?_ | omega | (simp; done) | (simp; omega)))⟩
theorem irow_one (x : Ins) : ∀ u ∈ irow x, u.oneCell' = true := by
  intro u hu
  simp [irow] at hu
  rcases hu with rfl | rfl | rfl | rfl | rfl <;> rfl
theorem Tryz.info62 : (Tryz.prog.info? 62).map (fun i => (i.zero, i.size, i.bytes)) = some (some (.agg #[.string ⟨#[]⟩, .string ⟨#[]⟩, .int .i64 0, .int .i64 0, .int .i64 0]), 5, 56) := by kernel_rfl
theorem own_nilok {w : World} {B n n' c k : Nat} {a : Option Addr} {e : TypeId} {xs : List Value} (h : w.ownsRow B e k (.slice a n c) n' xs) : NilOk a n c := by
  rcases h.2 with ⟨h1, _⟩ | ⟨g, cap, cur, h1, _⟩
  · injection h1 with h1 h2 h3
    exact fun _ => ⟨h2, h3⟩
  · injection h1 with h1 h2 h3
    exact fun e => by rw [e] at h1; cases h1
set_option maxRecDepth 100000 in
set_option maxHeartbeats 4000000 in
theorem clonei_any (c : Option Addr) (kc : Nat) (xs : List Ins) (w : World) (hF : InsL w c xs) (hok : NilOk c xs.length kc) (hm : xs.length ≤ 1000000) :
    Calls Tryz.prog 36 #[.slice c xs.length kc] w (Gives w (OwnL irow 5 w.heap.size 62 xs)) := by
  have HF := Lib.hid hF
  have Hok := Lib.hid hok
  clear hF
  obtain ⟨i0, hi, hz0, hz1, hz2⟩ := info_parts Tryz.info62
  have Hi := Lib.hid hi
  have Hz0 := Lib.hid hz0
  have Hz1 := Lib.hid hz1
  have Hz2 := Lib.hid hz2
  clear hi hz0 hz1 hz2
  cases c with
  | none =>
    obtain ⟨h1, h2⟩ := hok rfl
    obtain rfl : xs = [] := List.eq_nil_of_length_eq_zero h1
    clear h1 hok
    subst h2
    have hq : ∀ V : World, (binOp .eql 47 (.slice none 0 0) (.slice none 0 0)).run Tryz.prog V = .ok (.bool true) V := fun V => Lib.run_eql_slice_nil V _ _ none 0 0 0 0 Tryz.underlying47
    go_enter Tryz.func36, Tryz.ntmps36
    go_wp2
    refine bodyPost_ret (v := .slice none 0 0) (by simp [results, Tryz.results36, go_sem]) rfl ⟨⟨_, rfl, World.ownsRow_nil _ _ _ _⟩, by (repeat' (first | with_reducible exact Below.refl _ _ | with_reducible assumption | with_reducible refine Below.drew ?_ | with_reducible refine below_drewN' ?_ _ | with_reducible refine Below.alloc ?_ ?_ _ | with_reducible refine Below.setCell ?_ ?_ _ | with_reducible refine below_step (by assumption) ?_ ?_ | omega | (simp; done) | (simp; omega)))⟩
  | some q =>
    clear hok
    have hc3 : 0 + xs.length ≤ maxLen := by unfold maxLen; omega
    have hc4 : (0 + xs.length) * 56 ≤ 140737488355328 := by omega
    have hq : ∀ V : World, (binOp .eql 47 (.slice (some q) xs.length kc) (.slice none 0 0)).run Tryz.prog V = .ok (.bool false) V := fun V => Lib.run_eql_slice_nil V _ _ (some q) _ _ 0 0 Tryz.underlying47
    go_enter Tryz.func36, Tryz.ntmps36
    go_wp2_with (at_builtin; refine wpList_append_src rfl (.tmp 5) (.tmp 6) 47 rfl w.heap.size 62 i0 _ 5 56 Tryz.underlying47 Hi.out Hz0.out Hz1.out Hz2.out rfl (by decide) _ 0 [] rfl (World.ownsRow_made w #[] 0 (Nat.le_refl w.heap.size) (Nat.zero_le _) rfl) (some q) xs.length kc (xs.flatMap irow) rfl (rows_length irow 5 irow_len xs) (RowsAt.news irow_len (HF.out.mono ((Below.refl _ w).alloc (Nat.le_refl _) _))) Hok.out (flat_ones irow_one xs) hc3 hc4 (le_alloc (Nat.le_refl w.heap.size) _) ?_; intro v1 w3 hown1 hgrow1; rw [Nat.zero_add, List.nil_append] at hown1; have HB3 := Lib.hid (own_below (World.ownsRow_made w #[] 0 (Nat.le_refl w.heap.size) (Nat.zero_le _) rfl : (w.alloc (.cells #[] 62)).ownsRow w.heap.size 62 5 (.slice (some ⟨w.heap.size, 0, none⟩) 0 0) 0 []) ((Below.refl _ w).alloc (Nat.le_refl w.heap.size) _) (le_alloc (Nat.le_refl w.heap.size) _) hgrow1); have HO3 := Lib.hid hown1; clear hown1 hgrow1)
    refine bodyPost_ret (v := v1) (by simp [results, Tryz.results36, go_sem]) rfl ⟨⟨_, rfl, HO3.out⟩, HB3.out⟩
set_option maxRecDepth 100000 in
theorem insts_any (base b : Nat) (G : List Gp) (s : CS) (gv pv lv : Value) (w : World) (h : CT w base b G s gv pv lv) (hL : s.L.length ≤ 1000000) :
    Calls Tryz.prog 15 #[.pointer (some ⟨b, 0, none⟩)] w (Gives w (OwnL irow 5 w.heap.size 62 s.L)) := by
  have c0 := h.row.cell 0
  have c3 := h.row.cell 3
  dsimp only [List.getElem?_cons_zero, List.getElem?_cons_succ] at c0 c3
  obtain ⟨a, k, rfl, -⟩ := h.insts
  have hI := h.list a k rfl
  have hN := own_nilok h.lo
  obtain ⟨M, hM⟩ : ∃ M, s.L = M := ⟨_, rfl⟩
  rw [hM] at hI hN c3 hL ⊢
  have HC := Lib.hid (clonei_any a k M w hI hN hL)
  clear h hI hN hM hL
  go_enter Tryz.func15, Tryz.ntmps15
  go_wp2_with (first
    | (go_at_call 29; (with_reducible refine (made_yes b _ c0).mono ?_); rintro e w1 ⟨rfl, rfl⟩)
    | (go_at_call 36; (with_reducible refine HC.out.mono ?_); rintro e w2 ⟨⟨v, rfl, hv⟩, hb2⟩; have HV := Lib.hid hv; have HB2 := Lib.hid hb2; obtain ⟨sv, kv, rfl, _⟩ := own_rows irow_len hv (by decide); clear hv hb2))
  go_ret
  exact ⟨⟨_, rfl, HV.out⟩, HB2.out⟩
end Go.Proofs.YtmkdfcggjlhcpaaGreatDoor
namespace Go.Proofs.YtmkdfcggjlhcpaaGreatDoor
open Go.RowKit
set_option linter.unusedVariables false
set_option linter.unusedSimpArgs false
theorem kcs_one (x : Lab) : ∀ u ∈ kcs x, u.oneCell' = true := by
  intro u hu
  simp [kcs] at hu
  rcases hu with rfl | rfl <;> rfl
theorem Tryz.info114 : (Tryz.prog.info? 114).map (fun i => (i.zero, i.size, i.bytes)) = some (some (.agg #[.string ⟨#[]⟩, .string ⟨#[]⟩]), 2, 32) := by kernel_rfl
set_option maxRecDepth 100000 in
set_option maxHeartbeats 4000000 in
theorem clonel_any (c : Option Addr) (kc : Nat) (xs : List Lab) (w : World) (hF : LabL w c xs) (hok : NilOk c xs.length kc) (hm : xs.length ≤ 1000000) :
    Calls Tryz.prog 74 #[.slice c xs.length kc] w (Gives w (OwnL kcs 2 w.heap.size 114 xs)) := by
  have HF := Lib.hid hF
  have Hok := Lib.hid hok
  clear hF
  obtain ⟨i0, hi, hz0, hz1, hz2⟩ := info_parts Tryz.info114
  have Hi := Lib.hid hi
  have Hz0 := Lib.hid hz0
  have Hz1 := Lib.hid hz1
  have Hz2 := Lib.hid hz2
  clear hi hz0 hz1 hz2
  cases c with
  | none =>
    obtain ⟨h1, h2⟩ := hok rfl
    obtain rfl : xs = [] := List.eq_nil_of_length_eq_zero h1
    clear h1 hok
    subst h2
    have hq : ∀ V : World, (binOp .eql 32 (.slice none 0 0) (.slice none 0 0)).run Tryz.prog V = .ok (.bool true) V := fun V => Lib.run_eql_slice_nil V _ _ none 0 0 0 0 Tryz.underlying32
    go_enter Tryz.func74, Tryz.ntmps74
    go_wp2
    refine bodyPost_ret (v := .slice none 0 0) (by simp [results, Tryz.results74, go_sem]) rfl ⟨⟨_, rfl, World.ownsRow_nil _ _ _ _⟩, by (repeat' (first | with_reducible exact Below.refl _ _ | with_reducible assumption | with_reducible refine Below.drew ?_ | with_reducible refine below_drewN' ?_ _ | with_reducible refine Below.alloc ?_ ?_ _ | with_reducible refine Below.setCell ?_ ?_ _ | with_reducible refine below_step (by assumption) ?_ ?_ | omega | (simp; done) | (simp; omega)))⟩
  | some q =>
    clear hok
    have hc3 : 0 + xs.length ≤ maxLen := by unfold maxLen; omega
    have hc4 : (0 + xs.length) * 32 ≤ 140737488355328 := by omega
    have hq : ∀ V : World, (binOp .eql 32 (.slice (some q) xs.length kc) (.slice none 0 0)).run Tryz.prog V = .ok (.bool false) V := fun V => Lib.run_eql_slice_nil V _ _ (some q) _ _ 0 0 Tryz.underlying32
    go_enter Tryz.func74, Tryz.ntmps74
    go_wp2_with (at_builtin; refine wpList_append_src rfl (.tmp 5) (.tmp 6) 32 rfl w.heap.size 114 i0 _ 2 32 Tryz.underlying32 Hi.out Hz0.out Hz1.out Hz2.out rfl (by decide) _ 0 [] rfl (World.ownsRow_made w #[] 0 (Nat.le_refl w.heap.size) (Nat.zero_le _) rfl) (some q) xs.length kc (xs.flatMap kcs) rfl (rows_length kcs 2 kcs_len xs) (RowsAt.news kcs_len (HF.out.mono ((Below.refl _ w).alloc (Nat.le_refl _) _))) Hok.out (flat_ones kcs_one xs) hc3 hc4 (le_alloc (Nat.le_refl w.heap.size) _) ?_; intro v1 w3 hown1 hgrow1; rw [Nat.zero_add, List.nil_append] at hown1; have HB3 := Lib.hid (own_below (World.ownsRow_made w #[] 0 (Nat.le_refl w.heap.size) (Nat.zero_le _) rfl : (w.alloc (.cells #[] 114)).ownsRow w.heap.size 114 2 (.slice (some ⟨w.heap.size, 0, none⟩) 0 0) 0 []) ((Below.refl _ w).alloc (Nat.le_refl w.heap.size) _) (le_alloc (Nat.le_refl w.heap.size) _) hgrow1); have HO3 := Lib.hid hown1; clear hown1 hgrow1)
    refine bodyPost_ret (v := v1) (by simp [results, Tryz.results74, go_sem]) rfl ⟨⟨_, rfl, HO3.out⟩, HB3.out⟩
set_option maxRecDepth 100000 in
set_option maxHeartbeats 4000000 in
theorem clonet_any (c : Option Addr) (kc : Nat) (xs : List Tnt) (w : World) (hF : TntsAt w c xs) (hok : NilOk c xs.length kc) (hm : xs.length ≤ 1000000) :
    Calls Tryz.prog 75 #[.slice c xs.length kc] w (Gives w (OwnL tcs 3 w.heap.size 119 xs)) := by
  have HF := Lib.hid hF
  have Hok := Lib.hid hok
  clear hF
  obtain ⟨i0, hi, hz0, hz1, hz2⟩ := info_parts Tryz.info119
  have Hi := Lib.hid hi
  have Hz0 := Lib.hid hz0
  have Hz1 := Lib.hid hz1
  have Hz2 := Lib.hid hz2
  clear hi hz0 hz1 hz2
  cases c with
  | none =>
    obtain ⟨h1, h2⟩ := hok rfl
    obtain rfl : xs = [] := List.eq_nil_of_length_eq_zero h1
    clear h1 hok
    subst h2
    have hq : ∀ V : World, (binOp .eql 33 (.slice none 0 0) (.slice none 0 0)).run Tryz.prog V = .ok (.bool true) V := fun V => Lib.run_eql_slice_nil V _ _ none 0 0 0 0 Tryz.underlying33
    go_enter Tryz.func75, Tryz.ntmps75
    go_wp2
    refine bodyPost_ret (v := .slice none 0 0) (by simp [results, Tryz.results75, go_sem]) rfl ⟨⟨_, rfl, World.ownsRow_nil _ _ _ _⟩, by (repeat' (first | with_reducible exact Below.refl _ _ | with_reducible assumption | with_reducible refine Below.drew ?_ | with_reducible refine below_drewN' ?_ _ | with_reducible refine Below.alloc ?_ ?_ _ | with_reducible refine Below.setCell ?_ ?_ _ | with_reducible refine below_step (by assumption) ?_ ?_ | omega | (simp; done) | (simp; omega)))⟩
  | some q =>
    clear hok
    have hc3 : 0 + xs.length ≤ maxLen := by unfold maxLen; omega
    have hc4 : (0 + xs.length) * 40 ≤ 140737488355328 := by omega
    have hq : ∀ V : World, (binOp .eql 33 (.slice (some q) xs.length kc) (.slice none 0 0)).run Tryz.prog V = .ok (.bool false) V := fun V => Lib.run_eql_slice_nil V _ _ (some q) _ _ 0 0 Tryz.underlying33
    go_enter Tryz.func75, Tryz.ntmps75
    go_wp2_with (at_builtin; refine wpList_append_src rfl (.tmp 5) (.tmp 6) 33 rfl w.heap.size 119 i0 _ 3 40 Tryz.underlying33 Hi.out Hz0.out Hz1.out Hz2.out rfl (by decide) _ 0 [] rfl (World.ownsRow_made w #[] 0 (Nat.le_refl w.heap.size) (Nat.zero_le _) rfl) (some q) xs.length kc (xs.flatMap tcs) rfl (rows_length tcs 3 tcs_len xs) (RowsAt.news tcs_len (HF.out.mono ((Below.refl _ w).alloc (Nat.le_refl _) _))) Hok.out (flat_ones tcs_one xs) hc3 hc4 (le_alloc (Nat.le_refl w.heap.size) _) ?_; intro v1 w3 hown1 hgrow1; rw [Nat.zero_add, List.nil_append] at hown1; have HB3 := Lib.hid (own_below (World.ownsRow_made w #[] 0 (Nat.le_refl w.heap.size) (Nat.zero_le _) rfl : (w.alloc (.cells #[] 119)).ownsRow w.heap.size 119 3 (.slice (some ⟨w.heap.size, 0, none⟩) 0 0) 0 []) ((Below.refl _ w).alloc (Nat.le_refl w.heap.size) _) (le_alloc (Nat.le_refl w.heap.size) _) hgrow1); have HO3 := Lib.hid hown1; clear hown1 hgrow1)
    refine bodyPost_ret (v := v1) (by simp [results, Tryz.results75, go_sem]) rfl ⟨⟨_, rfl, HO3.out⟩, HB3.out⟩
theorem own_cap {α : Type} {enc : α → List Value} {K base : Nat} {t : TypeId} {l : List α} {sp : Option Addr} {cap : Nat} {w : World} (h : OwnL enc K base t l (.slice sp l.length cap) w) : l.length ≤ cap := by
  obtain ⟨_, hv | ⟨g, c, cur, hv, _, _, hc, _⟩⟩ := h
  · omega
  · simp at hv
    omega
def OwnM (m : Mac) (base : Nat) (v : Value) (w : World) : Prop := ∃ vl vt, v = .agg #[.string m.nm, .string m.gp, .int .i64 m.r0, .int .i64 m.r1, .int .i64 m.r2, .int .i64 m.r3, .int .i64 m.r4, vl, vt, .bool m.rd] ∧ OwnL kcs 2 base 114 m.labs vl w ∧ OwnL tcs 3 base 119 m.tnts vt w
set_option maxRecDepth 100000 in
set_option maxHeartbeats 4000000 in
theorem clonem_any (m : Mac) (w : World) (hA : MacIn w m) (hl : m.labs.length ≤ 1000000) (ht : m.tnts.length ≤ 1000000) :
    Calls Tryz.prog 51 #[.agg #[.string (m).nm, .string (m).gp, .int .i64 (m).r0, .int .i64 (m).r1, .int .i64 (m).r2, .int .i64 (m).r3, .int .i64 (m).r4, .slice (m).la (m).labs.length (m).lk, .slice (m).ta (m).tnts.length (m).tk, .bool (m).rd]] w (Gives w (OwnM m w.heap.size)) := by
  obtain ⟨nm, gp, r0, r1, r2, r3, r4, la, lk, L, ta, tk, T, rd⟩ := m
  obtain ⟨⟨hL, hT, hl9, ht9⟩, hln, hlc, htn, htc⟩ := hA
  simp only at hL hT hln hlc htn htc hl ht
  clear hl9 ht9 hlc htc
  have HL := Lib.hid hL
  have HT := Lib.hid hT
  have Hln := Lib.hid hln
  have Htn := Lib.hid htn
  clear hL hT hln htn
  go_enter Tryz.func51, Tryz.ntmps51
  go_wp2_with (first
    | (go_at_call 74; (with_reducible refine (clonel_any la lk L _ (HL.out.mono (by (repeat' (first | with_reducible exact Below.refl _ _ | with_reducible assumption | with_reducible refine Below.drew ?_ | with_reducible refine below_drewN' ?_ _ | with_reducible refine Below.alloc ?_ ?_ _ | with_reducible refine Below.setCell ?_ ?_ _ | with_reducible refine below_step (by assumption) ?_ ?_ | omega | (simp; done) | (simp; omega))))) Hln.out hl).mono ?_); rintro e w1 ⟨⟨vl, rfl, hv1⟩, hb1⟩; obtain ⟨hc1, hf1⟩ := bcell hb1; have hz1 := hb1.size; (try simp at hz1); obtain ⟨sl, kl, rfl, _⟩ := own_rows kcs_len hv1 (by decide); have HV1 := Lib.hid hv1; clear hv1; have z1_0 : w.heap.size < w1.heap.size := (by omega); have y1_0 : w.heap.size ≤ w1.heap.size := (by omega); have z1_1 : w.heap.size + 1 < w1.heap.size := (by omega); have y1_1 : w.heap.size + 1 ≤ w1.heap.size := (by omega); have HB1 := Lib.hid hb1; have x7 : w1.cell? ⟨w.heap.size, 7, none⟩ = some (.slice la L.length lk) := (by simp [go_sem, *]))
    | (go_at_call 75; (with_reducible refine (clonet_any ta tk T _ (HT.out.mono (by (repeat' (first | with_reducible exact Below.refl _ _ | with_reducible assumption | with_reducible refine Below.drew ?_ | with_reducible refine below_drewN' ?_ _ | with_reducible refine Below.alloc ?_ ?_ _ | with_reducible refine Below.setCell ?_ ?_ _ | with_reducible refine below_step (by assumption) ?_ ?_ | omega | (simp; done) | (simp; omega))))) Htn.out ht).mono ?_); rintro e w2 ⟨⟨vt, rfl, hv2⟩, hb2⟩; obtain ⟨hc2, hf2⟩ := bcell hb2; have hz2 := hb2.size; (try simp at hz2); obtain ⟨st, kt, rfl, _⟩ := own_rows tcs_len hv2 (by decide); have HV2 := Lib.hid hv2; clear hv2; have z2_0 : w.heap.size < w2.heap.size := (by omega); have y2_0 : w.heap.size ≤ w2.heap.size := (by omega); have z2_1 : w.heap.size + 1 < w2.heap.size := (by omega); have y2_1 : w.heap.size + 1 ≤ w2.heap.size := (by omega); have q7 : w2.cell? ⟨w.heap.size, 7, none⟩ = some (.slice sl L.length kl) := (by rw [hc2 _ _ (by simp; omega)]; exact World.cell?_setCell_same _ _ _ x7); have q8 : ∀ v, (w2.setCell ⟨w.heap.size, 8, none⟩ v).cell? ⟨w.heap.size, 8, none⟩ = some v := (fun v => World.cell?_setCell_same _ _ _ (by rw [hc2 _ _ (by simp; omega)]; simp [go_sem, *]; rfl))))
  refine bodyPost_ret (v := .agg #[.string nm, .string gp, .int .i64 r0, .int .i64 r1, .int .i64 r2, .int .i64 r3, .int .i64 r4, .slice sl L.length kl, .slice st T.length kt, .bool rd]) (by simp [results, Tryz.results51, go_sem, *]) rfl ?_
  have hk1 := HV1.out
  have hk2 := HV2.out
  simp only [World.size_alloc, World.size_setCell] at hk1 hk2
  refine ⟨⟨_, rfl, _, _, rfl, OwnL.mono (own_keep (B := w.heap.size + 2) hk1 ?_ (by first | omega | (simp; done) | (simp; omega))) (by first | omega | (simp; done) | (simp; omega)), OwnL.mono (own_keep (B := w.heap.size + 2) hk2 ?_ (by first | omega | (simp; done) | (simp; omega))) (by first | omega | (simp; done) | (simp; omega))⟩, by (repeat' (first | with_reducible exact Below.refl _ _ | with_reducible assumption | with_reducible refine Below.drew ?_ | with_reducible refine below_drewN' ?_ _ | with_reducible refine Below.alloc ?_ ?_ _ | with_reducible refine Below.setCell ?_ ?_ _ | with_reducible refine below_step (by assumption) ?_ ?_ | omega | (simp; done) | (simp; omega)))⟩
  · (repeat' (first | with_reducible exact Keep.refl _ _ _ | with_reducible assumption | with_reducible refine Keep.drew ?_ | with_reducible refine Keep.drewN ?_ _ | with_reducible refine Keep.alloc ?_ ?_ _ | with_reducible refine Keep.setCell ?_ ?_ _ | with_reducible refine Keep.step (by assumption) ?_ ?_ | omega | (simp; done) | (simp; omega)))
  · (repeat' (first | with_reducible exact Keep.refl _ _ _ | with_reducible assumption | with_reducible refine Keep.drew ?_ | with_reducible refine Keep.drewN ?_ _ | with_reducible refine Keep.alloc ?_ ?_ _ | with_reducible refine Keep.setCell ?_ ?_ _ | with_reducible refine Keep.step (by assumption) ?_ ?_ | omega | (simp; done) | (simp; omega)))
end Go.Proofs.YtmkdfcggjlhcpaaGreatDoor
