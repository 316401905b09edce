/-
  permit.All of two calls in the fixed state; what comes of all fixed calls: known gives back true.
-/
import Derived.Test.YtmkdfcggjlhcpaaGreatDoorGItox
import Derived.Test.YtmkdfcggjlhcpaaGreatDoorLatex
import Derived.Test.YtmkdfcggjlhcpaaGreatDoorClPx
import Derived.Test.YtmkdfcggjlhcpaaGreatDoorMEx
import Derived.Test.YtmkdfcggjlhcpaaGreatDoorMAx
import Derived.Test.YtmkdfcggjlhcpaaGreatDoorPT1x
import Derived.Deep.Cut
namespace Go.Proofs.YtmkdfcggjlhcpaaGreatDoor
open Go.RowKit
set_option linter.unusedVariables false
set_option linter.unusedSimpArgs false
theorem after_no {s : St} {what nm : ByteArray} {n z : Int} {w : World} (hI : StIn w s) (hO : StOk s) (hn0 : -9223372036854775808 ≤ n) (hn1 : n ≤ 9223372036854775807) (hz : whyP s what nm n (bX s nm n) = z) (h : z ≠ 0) :
    Calls Tryz.prog 17 #[.agg #[.slice s.ga s.C.length s.gk, .slice s.ta s.T.length s.tk, .slice s.ia s.L.length s.ik, .int .i64 s.c0, .int .i64 s.c1, .int .i64 s.c2, .slice s.ra s.R.length s.rk, .int .i64 s.un, .int .i64 s.sh], .agg #[.string what, .string nm, .int .i64 n]] w fun e w' => e = .returned (.tuple #[.agg #[.slice none 0 0, .slice none 0 0, .slice none 0 0, .int .i64 0, .int .i64 0, .int .i64 0, .slice none 0 0, .int .i64 0, .int .i64 0], .int .i64 z]) ∧ Below w.heap.size w w' := by
  refine (after_any s what nm n w hI hO hn0 hn1).mono ?_
  rintro e w' ⟨⟨b, rfl, ⟨y, hy, h1, rfl⟩ | ⟨h0, -⟩⟩, hB⟩
  · rw [hz] at h1
    subst h1
    exact ⟨rfl, hB⟩
  · rw [hz] at h0
    exact absurd h0 h
theorem after_yes {s : St} {what nm : ByteArray} {n : Int} {w : World} (hI : StIn w s) (hO : StOk s) (hn0 : -9223372036854775808 ≤ n) (hn1 : n ≤ 9223372036854775807) (hz : whyP s what nm n (bX s nm n) = 0) :
    Calls Tryz.prog 17 #[.agg #[.slice s.ga s.C.length s.gk, .slice s.ta s.T.length s.tk, .slice s.ia s.L.length s.ik, .int .i64 s.c0, .int .i64 s.c1, .int .i64 s.c2, .slice s.ra s.R.length s.rk, .int .i64 s.un, .int .i64 s.sh], .agg #[.string what, .string nm, .int .i64 n]] w fun e w' => (∃ s', e = .returned (.tuple #[.agg #[.slice s'.ga s'.C.length s'.gk, .slice s'.ta s'.T.length s'.tk, .slice s'.ia s'.L.length s'.ik, .int .i64 s'.c0, .int .i64 s'.c1, .int .i64 s'.c2, .slice s'.ra s'.R.length s'.rk, .int .i64 s'.un, .int .i64 s'.sh], .int .i64 0]) ∧ SOwn w.heap.size s' w' ∧ PAl (aft s what nm n) s') ∧ Below w.heap.size w w' := by
  refine (after_any s what nm n w hI hO hn0 hn1).mono ?_
  rintro e w' ⟨⟨b, rfl, ⟨y, hy, h1, -⟩ | ⟨h0, s', rfl, h2, h3⟩⟩, hB⟩
  · rw [hz] at h1
    exact absurd h1.symm hy
  · exact ⟨⟨s', rfl, h2, h3⟩, hB⟩
theorem SOwn.apart {B : Nat} {s : St} {w w' : World} {X : Nat} {cs : List Value} (h : SOwn B s w) (hb : Blk w X 52 cs) (ho : Only [X] w w') : SOwn B s w' := by
  have tb := blk_ty hb
  have N : ∀ {v : Value} {n k : Nat} {e : TypeId} {xs : List Value}, w.ownsRow B e k v n xs → e ≠ 52 → w'.ownsRow B e k v n xs := fun h he =>
    own_same h fun g eg => ho.block g (own_lt h eg).2 (by rw [List.mem_singleton]; exact (own_ty h eg).ne tb he)
  exact ⟨N h.g (by decide), fun x hx => ⟨N (h.m x hx).l (by decide), N (h.m x hx).t (by decide)⟩, N h.t (by decide), N h.i (by decide), N h.r (by decide)⟩
def NewS (N : Nat) (u : Value) (w : World) : Prop := ∃ X, u = .pointer (some ⟨X, 0, none⟩) ∧ N ≤ X ∧ Blk w X 52 [.slice none 0 0, .slice none 0 0, .slice none 0 0, .int .i64 0, .int .i64 0, .int .i64 0, .slice none 0 0, .int .i64 0, .int .i64 0]
theorem NewS.mk {W : World} (n : Held W) : NewS W.heap.size (.pointer (some ⟨n.w.heap.size, 0, none⟩)) (n.w.alloc (.cells #[.slice none 0 0, .slice none 0 0, .slice none 0 0, .int .i64 0, .int .i64 0, .int .i64 0, .slice none 0 0, .int .i64 0, .int .i64 0] 52)) := ⟨_, rfl, n.below.size, Blk.new _ 52 [.slice none 0 0, .slice none 0 0, .slice none 0 0, .int .i64 0, .int .i64 0, .int .i64 0, .slice none 0 0, .int .i64 0, .int .i64 0]⟩
theorem NewS.stays (N : Nat) : Stays (NewS N) := fun v w w' hb ⟨X, e, h, hB⟩ => ⟨X, e, h, hB.below hb⟩
def RA (N : Nat) (s : St) (v : Value) (w : World) : Prop := ∃ s' : St, v = .tuple #[.agg #[.slice s'.ga s'.C.length s'.gk, .slice s'.ta s'.T.length s'.tk, .slice s'.ia s'.L.length s'.ik, .int .i64 s'.c0, .int .i64 s'.c1, .int .i64 s'.c2, .slice s'.ra s'.R.length s'.rk, .int .i64 s'.un, .int .i64 s'.sh], .int .i64 0] ∧ SOwn N s' w ∧ PAl s s'
theorem RA.stays (N : Nat) (s : St) : Stays (RA N s) := fun v w w' hb ⟨X, e, h, hB⟩ => ⟨X, e, h.mono hb, hB⟩
def RE (N : Nat) (s : St) (v : Value) (w : World) : Prop := ∃ s' : St, v = (.agg #[.slice s'.ga s'.C.length s'.gk, .slice s'.ta s'.T.length s'.tk, .slice s'.ia s'.L.length s'.ik, .int .i64 s'.c0, .int .i64 s'.c1, .int .i64 s'.c2, .slice s'.ra s'.R.length s'.rk, .int .i64 s'.un, .int .i64 s'.sh]) ∧ SOwn N s' w ∧ PAl s s'
theorem RE.stays (N : Nat) (s : St) : Stays (RE N s) := fun v w w' hb ⟨X, e, h, hB⟩ => ⟨X, e, h.mono hb, hB⟩
def RO (v : Value) (_ : World) : Prop := v = .int .i64 0
theorem RO.stays : Stays RO := fun _ _ _ _ h => h
end Go.Proofs.YtmkdfcggjlhcpaaGreatDoor
namespace Go.Proofs.YtmkdfcggjlhcpaaGreatDoor
open Go.RowKit
set_option linter.unusedVariables false
set_option linter.unusedSimpArgs false
def gnE (g : Gp) : List Value := scs g.nm
theorem gnE_one (g : Gp) : ∀ u ∈ gnE g, u.oneCell' = true := scs_one _
def allG (g : Gp) : Bool := true
theorem filt_allG (l : List Gp) : l.filter allG = l := by
  rw [List.filter_eq_self]
  exact fun _ _ => rfl
end Go.Proofs.YtmkdfcggjlhcpaaGreatDoor
namespace Go.Proofs.YtmkdfcggjlhcpaaGreatDoor
open Go.RowKit
set_option linter.unusedVariables false
set_option linter.unusedSimpArgs false
set_option maxRecDepth 100000 in
theorem names1_any (g : Gp) (w : World) :
    Calls Tryz.prog 56 #[.agg #[.string (g).nm, .int .i64 (g).mn, .int .i64 (g).mx, .string (g).like.nm, .string (g).like.gp, .int .i64 (g).like.r0, .int .i64 (g).like.r1, .int .i64 (g).like.r2, .int .i64 (g).like.r3, .int .i64 (g).like.r4, .slice (g).like.la (g).like.labs.length (g).like.lk, .slice (g).like.ta (g).like.tnts.length (g).like.tk, .bool (g).like.rd, .int .i64 (g).pr, .int .i64 (g).rk]] w fun e w' => e = .returned (.string g.nm) ∧ Below w.heap.size w w' := by
  obtain ⟨nm, mn, mx, m, pr, rk⟩ := g
  go_enter Tryz.func56, Tryz.ntmps56
  go_wp2
  go_ret
  exact ⟨rfl, by (repeat' (first | with_reducible exact Below.refl _ _ | with_reducible assumption | with_reducible refine Below.drew ?_ | with_reducible refine below_drewN' ?_ _ | with_reducible refine Below.alloc ?_ ?_ _ | with_reducible refine Below.setCell ?_ ?_ _ | with_reducible refine below_step (by assumption) ?_ ?_ | omega | (simp; done) | (simp; omega)))⟩
set_option maxRecDepth 100000 in
theorem names2_any (g : Gp) (w : World) :
    Calls Tryz.prog 57 #[.agg #[.string (g).nm, .int .i64 (g).mn, .int .i64 (g).mx, .string (g).like.nm, .string (g).like.gp, .int .i64 (g).like.r0, .int .i64 (g).like.r1, .int .i64 (g).like.r2, .int .i64 (g).like.r3, .int .i64 (g).like.r4, .slice (g).like.la (g).like.labs.length (g).like.lk, .slice (g).like.ta (g).like.tnts.length (g).like.tk, .bool (g).like.rd, .int .i64 (g).pr, .int .i64 (g).rk]] w fun e w' => e = .returned (.bool true) ∧ Below w.heap.size w w' := by
  obtain ⟨nm, mn, mx, m, pr, rk⟩ := g
  go_enter Tryz.func57, Tryz.ntmps57
  go_wp2
  go_ret
  exact ⟨rfl, by (repeat' (first | with_reducible exact Below.refl _ _ | with_reducible assumption | with_reducible refine Below.drew ?_ | with_reducible refine below_drewN' ?_ _ | with_reducible refine Below.alloc ?_ ?_ _ | with_reducible refine Below.setCell ?_ ?_ _ | with_reducible refine below_step (by assumption) ?_ ?_ | omega | (simp; done) | (simp; omega)))⟩
set_option maxRecDepth 100000 in
set_option maxHeartbeats 4000000 in
theorem collectg_any (c : Option Addr) (kc : Nat) (xs : List Gp) (w : World) (hF : GpL w c xs) (hm : xs.length ≤ 1000000) :
    Calls Tryz.prog 55 #[.slice c xs.length kc, .func (.func 56) #[] #[], .func (.func 57) #[] #[]] w (Gives w (OwnL gnE 1 w.heap.size 9 (xs.filter allG))) := by
  have HF := Lib.hid hF
  clear hF
  obtain ⟨i0, hi, hz0, hz1, hz2⟩ := info_parts Tryz.info9
  have Hi := Lib.hid hi
  have Hz0 := Lib.hid hz0
  have Hz1 := Lib.hid hz1
  have Hz2 := Lib.hid hz2
  clear hi hz0 hz1 hz2
  obtain ⟨n, hln⟩ : ∃ n, xs.length = n := ⟨_, rfl⟩
  rw [hln] at hm ⊢
  have Hln := Lib.hid hln
  clear hln
  go_enter Tryz.func55, Tryz.ntmps55
  go_wp2
  obtain ⟨W, hW⟩ : ∃ W, W = w := ⟨_, rfl⟩
  have HW := Lib.hid (show Below w.heap.size w W by rw [hW]; (repeat' (first | with_reducible exact Below.refl _ _ | with_reducible assumption | with_reducible refine Below.drew ?_ | with_reducible refine below_drewN' ?_ _ | with_reducible refine Below.alloc ?_ ?_ _ | with_reducible refine Below.setCell ?_ ?_ _ | with_reducible refine below_step (by assumption) ?_ ?_ | omega | (simp; done) | (simp; omega))))
  have hWz : w.heap.size ≤ W.heap.size := HW.out.size
  have HFW := Lib.hid (HF.out.mono HW.out)
  (try rw [← hW])
  clear hW
  go_loopw [7, 9, 12] (fun v _ i wr => ∃ k : Nat, k ≤ n ∧ i = .int .i64 k ∧ wr.ownsRow W.heap.size 9 1 v ((xs.take k).filter allG).length (((xs.take k).filter allG).flatMap gnE) ∧ Below W.heap.size W wr) (fun _ _ i _ => n - (intOf i).toNat)
  case atStart => exact ⟨0, by omega, rfl, World.ownsRow_nil _ _ _ _, by (repeat' (first | with_reducible exact Below.refl _ _ | with_reducible assumption | with_reducible refine Below.drew ?_ | with_reducible refine below_drewN' ?_ _ | with_reducible refine Below.alloc ?_ ?_ _ | with_reducible refine Below.setCell ?_ ?_ _ | with_reducible refine below_step (by assumption) ?_ ?_ | omega | (simp; done) | (simp; omega)))⟩
  case round =>
    obtain ⟨k, hk, rfl, hown, hB⟩ := hrel
    obtain ⟨hcB, hfB⟩ := bcell hB
    have hbz := hB.size
    have Hown := Lib.hid hown
    have HB := Lib.hid hB
    clear hown
    by_cases hlt : k < n
    · skip
      obtain ⟨x, hx⟩ := mem_at (l := xs) (k := k) (by rw [Hln.out]; exact hlt)
      have Hx := Lib.hid hx
      obtain ⟨b, off, rfl, hb, hc⟩ := HFW.out (by rw [Hln.out]; omega)
      have hbw : b < wr.heap.size := by omega
      obtain ⟨c0, c1, c2, c3, c4, c5, c6, c7, c8, c9, c10, c11, c12, c13, c14⟩ := grow_cells (hc k x hx)
      clear hc hx
      have hv : allG x = true := rfl
      have Hs := Lib.hid (filt_yes Hx.out (P := allG) (show allG x = true from hv))
      have hL := filt_len allG xs k
      have hc3 : ((xs.take k).filter allG).length + 1 ≤ maxLen := by unfold maxLen; omega
      have hc4 : (((xs.take k).filter allG).length + 1) * 16 ≤ 140737488355328 := by omega
      have Hrow := Lib.hid (show ((xs.take k).filter allG).flatMap gnE ++ gnE x = ((xs.take (k + 1)).filter allG).flatMap gnE by rw [Hs.out]; simp)
      have Hlen := Lib.hid (show ((xs.take k).filter allG).length + 1 = ((xs.take (k + 1)).filter allG).length by rw [Hs.out]; simp)
      clear hL
      clear hv
      go_wp2_with (first
        | (go_at_call 57; (with_reducible refine (names2_any x _).mono ?_); rintro e w5 ⟨rfl, hb5⟩; obtain ⟨hc5, hf5⟩ := bcell hb5; have hz5 := hb5.size; (try simp at hz5); have z5_0 : wr.heap.size < w5.heap.size := (by omega); have y5_0 : wr.heap.size ≤ w5.heap.size := (by omega))
        | (go_at_call 56; (with_reducible refine (names1_any x _).mono ?_); rintro e w6 ⟨rfl, hb6⟩; have hz6 := hb6.size; have HOx := Lib.hid (own_kept (own_kept (Hown.out.alloc _) hb5) hb6); have HBx := Lib.hid (show Below W.heap.size W w6 by (repeat' (first | with_reducible exact Below.refl _ _ | with_reducible assumption | with_reducible refine Below.drew ?_ | with_reducible refine below_drewN' ?_ _ | with_reducible refine Below.alloc ?_ ?_ _ | with_reducible refine Below.setCell ?_ ?_ _ | with_reducible refine below_step (by assumption) ?_ ?_ | omega | (simp; done) | (simp; omega)))); have hbx := HBx.out.size)
        | (at_builtin; refine wpList_append_own _ rfl (.tmp 19) (.tmp 23) 50 rfl W.heap.size 9 i0 _ 1 16 Tryz.underlying50 Hi.out Hz0.out Hz1.out Hz2.out rfl (by decide) _ ((xs.take k).filter allG).length (((xs.take k).filter allG).flatMap gnE) rfl (HOx.out.alloc _) ⟨w6.heap.size, 0, none⟩ 1 1 (gnE x) rfl rfl (news_at _ _ _) (gnE_one _) hc3 hc4 (le_alloc hbx _) ?_; intro v1 w1 hown1 hgrow1 _; rw [Hrow.out, Hlen.out] at hown1; have hB1 := own_below (HOx.out.alloc _) (HBx.out.alloc hbx _) (le_alloc hbx _) hgrow1; have HO1 := Lib.hid hown1; clear hown1 hgrow1))
      go_roundw
      case rel => exact ⟨k + 1, by omega, by go_num, HO1.out, hB1⟩
      case measure => simp [intOf]; omega
    · skip
      obtain rfl : k = n := by omega
      have HP := Lib.hid (show ∀ v, wr.ownsRow W.heap.size 9 1 v ((xs.take k).filter allG).length (((xs.take k).filter allG).flatMap gnE) → Gives w (OwnL gnE 1 w.heap.size 9 (xs.filter allG)) (.returned v) wr from fun v h => ⟨⟨v, rfl, OwnL.mono (OwnL.eq (filt_all _ Hln.out).symm h) hWz⟩, HW.out.trans (HB.out.mono hWz)⟩)
      go_wp2
      refine bodyPost_ret (by simp [results, Tryz.results55, go_sem]) rfl (HP.out _ Hown.out)
set_option maxRecDepth 100000 in
set_option maxHeartbeats 4000000 in
theorem names_any (c : Option Addr) (kc : Nat) (xs : List Gp) (w : World) (hF : GpL w c xs) (hm : xs.length ≤ 1000000) :
    Calls Tryz.prog 34 #[.slice c xs.length kc] w (Gives w (OwnL gnE 1 w.heap.size 9 (xs.filter allG))) := by
  go_enter Tryz.func34, Tryz.ntmps34
  go_wp2_with (go_at_call 55; (with_reducible refine (collectg_any c kc xs _ hF hm).mono ?_); rintro e w1 ⟨⟨v, rfl, hv⟩, hb⟩)
  refine bodyPost_ret (by simp [results, Tryz.results34, go_sem]) rfl ⟨⟨v, rfl, hv⟩, hb⟩
end Go.Proofs.YtmkdfcggjlhcpaaGreatDoor
namespace Go.Proofs.YtmkdfcggjlhcpaaGreatDoor
open Go.RowKit
set_option linter.unusedVariables false
set_option linter.unusedSimpArgs false
def RIn (B : Nat) (L : List Ins) (v : Value) (w : World) : Prop := ∃ a k, v = .slice a L.length k ∧ OwnL irow 5 B 62 L (.slice a L.length k) w
theorem RIn.stays (B : Nat) (L : List Ins) : Stays (RIn B L) := fun v w w' hb ⟨a, k, e, h⟩ => ⟨a, k, e, own_kept h hb⟩
def RBd (B : Nat) (L : List Ins) (ga : Option Addr) (N ka : Nat) (v : Value) (w : World) : Prop := ∃ a k, v = .agg #[.slice ga N ka, .slice none 0 0, .slice a L.length k, .int .i64 0, .int .i64 0, .int .i64 0, .slice none 0 0, .int .i64 0, .int .i64 1000] ∧ OwnL irow 5 B 62 L (.slice a L.length k) w
theorem RBd.stays (B : Nat) (L : List Ins) (ga : Option Addr) (N ka : Nat) : Stays (RBd B L ga N ka) := fun v w w' hb ⟨a, k, e, h⟩ => ⟨a, k, e, own_kept h hb⟩
theorem RIn.of {B B' : Nat} {L : List Ins} {v : Value} {w : World} (h : OwnL irow 5 B' 62 L v w) (hb : B ≤ B') : RIn B L v w := by
  obtain ⟨a, k, rfl, -, -⟩ := OwnL.isL irow_len (by decide) h
  exact ⟨a, k, rfl, OwnL.mono h hb⟩
theorem own_apart {w w' : World} {B X : Nat} {t : TypeId} {cs : List Value} {v : Value} {n k : Nat} {e : TypeId} {xs : List Value} (h : w.ownsRow B e k v n xs) (hb : Blk w X t cs) (ho : Only [X] w w') (he : e ≠ t) : w'.ownsRow B e k v n xs :=
  own_same h fun g eg => ho.block g (own_lt h eg).2 (by rw [List.mem_singleton]; exact (own_ty h eg).ne (blk_ty hb) he)
theorem tgt_at {l : List Gp} {cs : CS} {m : Nat} (h : cs.Ok m) (hG : cs.G = l.map gkOf) {k : Nat} {g : Gp} (hg : l[k]? = some g) : (cs.P.map Pl.t)[k]? = some (cs.tgt g.nm) := by
  have hgk : cs.G[k]? = some (gkOf g) := by rw [hG, List.getElem?_map, hg]; rfl
  have hf : fndK cs.G g.nm = some k := fndK_nd h.nd hgk
  obtain ⟨p, hp⟩ := mem_at (l := cs.P) (k := k) (by rw [h.ln]; exact lt_at hgk)
  unfold CS.tgt
  rw [hf]
  dsimp only
  rw [hp, List.getElem?_map, hp]
  rfl
theorem fail_ne (cs : CS) (nm : ByteArray) : ((cs.fail nm).2 == 23) = false := by
  unfold CS.fail
  split
  · rfl
  · split
    · rfl
    · split <;> rfl
set_option maxRecDepth 100000 in
set_option maxHeartbeats 8000000 in
theorem of_prov (ga : Option Addr) (l : List Gp) (ka : Nat) (w0 : World) (b m : Nat) (c0 : CS) (F : List Nat) (w : World) (hP : Prov w0 b c0 m F w) (hm : m ≤ 50) (hG : c0.G = l.map gkOf) (hF : GpL w0 ga l) (hN : NilOk ga l.length ka) (hI : ∀ g ∈ l, MacIn w0 g.like) (hL : lightGs l = true) (hr : rightGs l = true) :
    Calls Tryz.prog 13 #[.slice ga l.length ka, .pointer (some ⟨b, 0, none⟩), .agg #[.int .i64 0, .int .i64 0, .int .i64 0], .slice none 0 0, .int .i64 0, .int .i64 1000] w fun e w' => ∃ s, e = .returned (.tuple #[.agg #[.slice s.ga s.C.length s.gk, .slice s.ta s.T.length s.tk, .slice s.ia s.L.length s.ik, .int .i64 s.c0, .int .i64 s.c1, .int .i64 s.c2, .slice s.ra s.R.length s.rk, .int .i64 s.un, .int .i64 s.sh], .int .i64 0]) ∧ SOwn w.heap.size s w' ∧ PAl (stOf l (c0.fail emp).1) s ∧ Prov w0 b (c0.fail emp).1 (m + 1) F w' ∧ Kept F w w' := by
  have HZ0 := Lib.hid (fun (o : Obj) => World.size_alloc w o)
  have HR := Lib.hid (fun V (hV : Below w0.heap.size w0 V) => rightgs_any ga l ka V (hF.mono hV) (fun g hg => (hI g hg).mono hV) hL)
  rw [hr] at HR
  have HGr := Lib.hid (GrOk.mk' hr hL)
  have HF := Lib.hid hF
  have HI := Lib.hid hI
  have HNl := Lib.hid hN
  have Hc0 := Lib.hid hP.ok
  have HP := Lib.hid hP
  have HG1 := Lib.hid (show (c0.fail emp).1.G = l.map gkOf from (kp_fail c0 emp).1.trans hG)
  have kf := fail_ne c0 emp
  obtain ⟨N, hNl⟩ : ∃ N, l.length = N := ⟨_, rfl⟩
  have HNN := Lib.hid hNl
  have hN16 : N ≤ 16 := by rw [← hNl]; exact HGr.out.g16
  rw [hNl] at HR ⊢
  obtain ⟨cz, hcz⟩ : ∃ z, (c0.fail emp).2 = z := ⟨_, rfl⟩
  obtain ⟨cs, hcs⟩ : ∃ z, (c0.fail emp).1 = z := ⟨_, rfl⟩
  have Hcz := Lib.hid hcz
  have Hcs := Lib.hid hcs
  rw [hcz] at kf
  rw [hcs] at HG1 ⊢
  clear hP hG hF hI hL hr hNl hcz hcs hN
  obtain ⟨A1, hA1⟩ : ∃ V, V = w.alloc (.cells #[.int .i64 0, .int .i64 0, .int .i64 0] 49) := ⟨_, rfl⟩
  obtain ⟨A2, hA2⟩ : ∃ V, V = A1.alloc (.cells #[.slice none 0 0, .slice none 0 0, .slice none 0 0, .int .i64 0, .int .i64 0, .int .i64 0, .slice none 0 0, .int .i64 0, .int .i64 0] 52) := ⟨_, rfl⟩
  have hs1 : A1.heap.size = w.heap.size + 1 := by rw [hA1]; exact World.size_alloc _ _
  have HBc := Lib.hid (show Blk A2 w.heap.size 49 [.int .i64 0, .int .i64 0, .int .i64 0] by rw [hA2, hA1]; exact (Blk.new w _ _).alloc _)
  have HBz := Lib.hid (show Blk A2 (w.heap.size + 1) 52 [.slice none 0 0, .slice none 0 0, .slice none 0 0, .int .i64 0, .int .i64 0, .int .i64 0, .slice none 0 0, .int .i64 0, .int .i64 0] by rw [hA2]; exact Blk.new_at hs1)
  have hbA : Below w.heap.size w A2 := by rw [hA2, hA1]; (repeat' (first | with_reducible exact Below.refl _ _ | with_reducible assumption | with_reducible refine Below.drew ?_ | with_reducible refine below_drewN' ?_ _ | with_reducible refine Below.alloc ?_ ?_ _ | with_reducible refine Below.setCell ?_ ?_ _ | with_reducible refine below_step (by assumption) ?_ ?_ | omega | (simp; done) | (simp; omega)))
  have hsA : A2.heap.size = w.heap.size + 1 + 1 := by rw [hA2, World.size_alloc, hs1]
  have HPA := Lib.hid (HP.out.add hbA (F' := [w.heap.size, w.heap.size + 1]) (fun z hz => by
    rw [hsA]
    rcases List.mem_cons.1 hz with e | e
    · omega
    · have := List.mem_singleton.1 e; omega))
  have HKA := Lib.hid (Kept.below HP.out hbA)
  have HFa := Lib.hid (fun (G : List Nat) V (hV : Prov w0 b c0 m G V) => show Calls Tryz.prog 11 #[.pointer (some ⟨b, 0, none⟩), .string ⟨#[]⟩] V fun e w' => e = .returned (.int .i64 (c0.fail emp).2) ∧ Prov w0 b (c0.fail emp).1 (m + 1) G w' ∧ Kept G V w' from pv_fail w0 b m c0 G V hV (by omega) emp)
  rw [Hcz.out, Hcs.out] at HFa
  go_enter Tryz.func13, Tryz.ntmps13
  go_upto_region 1 with (fail)
  rw [← hA1, ← hA2]
  clear hA1 hA2 hs1
  go_upto_region 5 with (first
    | (go_at_call 26; (with_reducible refine (HR.out _ HPA.out.bl).mono ?_); rintro e w1 ⟨rfl, hb⟩; have HP1 := Lib.hid (HPA.out.below hb); have HK1 := Lib.hid (Kept.below HPA.out hb); have HBc1 := Lib.hid (HBc.out.below hb); have HBz1 := Lib.hid (HBz.out.below hb); clear hb)
    | (go_at_call 11; (with_reducible refine (HFa.out _ _ HP1.out).mono ?_); rintro e w2 ⟨rfl, hP2, hK2⟩; have HP2 := Lib.hid hP2; have HK2 := Lib.hid hK2; clear hP2 hK2))
  have HBc2 := Lib.hid (HBc1.out.same (HK2.out.2 _ (by simp)))
  have HBz2 := Lib.hid (HBz1.out.same (HK2.out.2 _ (by simp)))
  have HKw2 := Lib.hid (show Kept F w w2 from (HKA.out.trans ⟨HK1.out.1, fun z hz => HK1.out.2 z (by simp [hz])⟩).trans ⟨HK2.out.1, fun z hz => HK2.out.2 z (by simp [hz])⟩)
  have HP2 := Lib.hid (HP2.out.sub (F' := F) (fun z hz => by simp [hz]))
  have hww : w.heap.size + 1 < w2.heap.size := HBz2.out.lt
  have HIn := Lib.hid (fun V (hV : Below w2.heap.size w2 V) => pv_insts w0 b (m + 1) cs F V (HP2.out.below hV) (by omega))
  obtain ⟨nL, hnL⟩ : ∃ n, cs.L.length = n := ⟨_, rfl⟩
  have HnL := Lib.hid hnL
  have HRc := Lib.hid (HBc2.out.range 0 [.int .i64 0, .int .i64 0, .int .i64 0] rfl)
  have hlc := HBc2.out.lt
  have HRB := Lib.hid (fun (a : Option Addr) (k : Nat) V (h : OwnL irow 5 w.heap.size 62 cs.L (.slice a cs.L.length k) V) => show RBd w.heap.size cs.L ga N ka (.agg #[.slice ga N ka, .slice none 0 0, .slice a cs.L.length k, .int .i64 0, .int .i64 0, .int .i64 0, .slice none 0 0, .int .i64 0, .int .i64 1000]) V from ⟨a, k, rfl, h⟩)
  clear hnL HPA HKA HP1 HK1 HBc1 HBz1 HBc HBz HK2 kf hbA hsA HR HBc2
  have hcH := held_cell
  refine region_rel_tail 9 (by kernel_rfl) (by kernel_rfl) (by kernel_rfl) ?_
  dsimp only [List.take, List.drop]
  repeat
    ((with_reducible refine relStep (fun K hK => ?_))
     (have HK := Lib.hid hK)
     clear hK
     (apply relInl
      · intro r n hf
        have Hf := Lib.hid hf
        clear hf
        (first
          | (fail)
          | (unfold relAt
             go_simp
             (first | (refine relUpon_val ?_ (Below.refl _ _); exact rfl) | exact rfl | (refine relUpon_enter ?_; fail))))
      (simp only [Act.put, List.setIfInBounds_toArray, List.set_cons_zero, List.set_cons_succ])
      (with_reducible refine HK.out _ _ ?_)
      clear HK K))
  (with_reducible refine relStep (fun K hK => ?_))
  (have HK := Lib.hid hK)
  clear hK
  refine relInr (RIn w.heap.size cs.L) (RIn.stays _ _) (fun r n hf => ?_) ?_
  · have Hf := Lib.hid hf
    clear hf HK K
    unfold relAt
    (skip)
    go_simp
    ((refine relUpon_enter ?_; go_at_call 15; (with_reducible refine (HIn.out _ n.below).mono ?_); rintro e w9 ⟨⟨v, rfl, hv⟩, hb⟩; exact ⟨⟨_, rfl, RIn.of hv (by have := n.below.size; omega)⟩, hb⟩))
  (simp only [Act.put, List.setIfInBounds_toArray, List.set_cons_zero, List.set_cons_succ])
  (with_reducible refine HK.out _ _ ?_)
  clear HK K
  repeat
    ((with_reducible refine relStep (fun K hK => ?_))
     (have HK := Lib.hid hK)
     clear hK
     (apply relInl
      · intro r n hf
        have Hf := Lib.hid hf
        clear hf
        (first
          | (((with_reducible refine at_rel (ty := 49) ?_); refine rel_load rfl w.heap.size 0 rfl [.int .i64 0, .int .i64 0, .int .i64 0] _ Tryz.underlying49 rfl (by kernel_rfl) (rangeAt_mono HRc.out hlc n.below) rfl))
          | (unfold relAt
             go_simp
             (first | (refine relUpon_val ?_ (Below.refl _ _); exact rfl) | exact rfl | (refine relUpon_enter ?_; fail))))
      (simp only [Act.put, List.setIfInBounds_toArray, List.set_cons_zero, List.set_cons_succ])
      (with_reducible refine HK.out _ _ ?_)
      clear HK K))
  (with_reducible refine relStep (fun K hK => ?_))
  (have HK := Lib.hid hK)
  clear hK
  refine relInr (RBd w.heap.size cs.L ga N ka) (RBd.stays _ _ _ _ _) (fun r n hf => ?_) ?_
  · have Hf := Lib.hid hf
    clear hf HK K
    unfold relAt
    ((have h1 := given_at Hf.out 0 rfl (by dsimp only; decide +kernel); (try dsimp only at h1); obtain ⟨a, k, e1, h1⟩ := h1; rw [e1]; have H1 := Lib.hid h1; clear h1 e1))
    go_simp
    ((refine relUpon_val (HRB.out a k _ H1.out) (Below.refl _ _)))
  (simp only [Act.put, List.setIfInBounds_toArray, List.set_cons_zero, List.set_cons_succ])
  (with_reducible refine HK.out _ _ ?_)
  clear HK K
  (with_reducible refine relStep (fun K hK => ?_))
  (have HK := Lib.hid hK)
  clear hK
  refine relInr (NewS w2.heap.size) (NewS.stays _) (fun r n hf => ?_) ?_
  · have Hf := Lib.hid hf
    clear hf HK K
    unfold relAt
    (skip)
    go_simp
    ((refine relUpon_val ?_ ?_; exact NewS.mk n; exact (Below.refl _ _).alloc (Nat.le_refl _) _))
  (simp only [Act.put, List.setIfInBounds_toArray, List.set_cons_zero, List.set_cons_succ])
  (with_reducible refine HK.out _ _ ?_)
  clear HK K
  refine relNil ?_
  intro r9 n9 hx9
  clear hcH
  (try simp only [List.nil_append, List.cons_append, List.mem_cons, List.not_mem_nil, or_false, forall_eq_or_imp, forall_eq, false_implies, implies_true] at hx9)
  obtain ⟨w9, hb9⟩ := n9
  (try dsimp only)
  obtain ⟨hc9, hf9⟩ := bcell hb9
  have hz9 := hb9.size
  (try simp at hz9)
  obtain ⟨-, ⟨ia, ik, e7, hin⟩, X, e8, hX, hBX⟩ := hx9
  have e8 : r9 8 = _ := e8
  have e7 : r9 7 = _ := e7
  dsimp only at hin hBX
  rw [e8, e7]
  have HBX := Lib.hid hBX
  have HIn9 := Lib.hid hin
  have HB9 := Lib.hid hb9
  have hXl := hBX.lt
  rw [HnL.out]
  clear e8 e7 hin hBX hb9 hc9 hf9 hz9 HIn HRc HRB
  go_upto_region 6 with ((with_reducible refine at_store (ty := 52) ?_); refine wpList_store_mid rfl 52 (.tmp 14) (.tmp 32) rfl X 0 _ rfl rfl (HBX.out.there 0 9 (Nat.le_of_ble_eq_true rfl)) (by kernel_rfl) (by rw [← Array.all_toList]; rfl) ?_; obtain ⟨W5, hW5⟩ : ∃ W5, W5 = w9.setCells X 0 [.slice ga N ka, .slice none 0 0, .slice ia nL ik, .int .i64 0, .int .i64 0, .int .i64 0, .slice none 0 0, .int .i64 0, .int .i64 1000] := ⟨_, rfl⟩; (show wpList _ _ _ _ _ (w9.setCells X 0 [.slice ga N ka, .slice none 0 0, .slice ia nL ik, .int .i64 0, .int .i64 0, .int .i64 0, .slice none 0 0, .int .i64 0, .int .i64 1000])); rw [← hW5]; have HO5 := Lib.hid (show Only [X] w9 W5 from by rw [hW5]; exact Only.setCells (.inl (by simp)) (Only.refl _ _) _ _); have HX5 := Lib.hid (show Blk W5 X 52 [.slice ga N ka, .slice none 0 0, .slice ia nL ik, .int .i64 0, .int .i64 0, .int .i64 0, .slice none 0 0, .int .i64 0, .int .i64 1000] from by rw [hW5]; exact HBX.out.setCells 0 _); have HB5 := Lib.hid (show Below w2.heap.size w2 W5 from HO5.out.below HB9.out HB9.out.size (by simpa using hX)); clear hW5)
  have HIn5 := Lib.hid (own_apart HIn9.out HBX.out HO5.out (by decide))
  have HP5 := Lib.hid (HP2.out.below HB5.out)
  have HKw5 := Lib.hid (HKw2.out.trans (Kept.below HP2.out HB5.out))
  have HBz5 := Lib.hid (HBz2.out.below HB5.out)
  have HNm := Lib.hid (fun V (hV : Below w0.heap.size w0 V) => names_any ga ka l V (HF.out.mono hV) (by rw [HNN.out]; omega))
  rw [HNN.out, filt_allG] at HNm
  have hz5 := HB5.out.size
  clear HBX HO5 HB5 HB9 HIn9 hXl HP2 HKw2 HBz2 hlc
  go_wp2_with (go_at_call 34; (with_reducible refine (HNm.out _ HP5.out.bl).mono ?_); rintro e w6 ⟨⟨v, rfl, hv⟩, hb⟩; obtain ⟨na, nk, rfl, -, hr⟩ := OwnL.isL (enc := gnE) (fun _ => rfl) (by decide) hv; rw [HNN.out]; have HNr := Lib.hid hr; have HX6 := Lib.hid (HX5.out.below hb); have HIn6 := Lib.hid (own_kept HIn5.out hb); have HP6 := Lib.hid (HP5.out.below hb); have HK6 := Lib.hid (HKw5.out.trans (Kept.below HP5.out hb)); have HBz6 := Lib.hid (HBz5.out.below hb); have HNo := Lib.hid hv; have hz6 := hb.size; clear hv hb hr)
  have hok : cs.Ok (m + 1) := HP6.out.ok
  have HTl := Lib.hid (show (cs.P.map Pl.t).length = N by rw [List.length_map, hok.ln, HG1.out, List.length_map, HNN.out])
  have HTg := Lib.hid (fun (k : Nat) (g : Gp) (hg : l[k]? = some g) => tgt_at hok HG1.out hg)
  have HSo := Lib.hid (stOf_ok hok HG1.out HGr.out (by omega))
  have hX0 : w0.heap.size ≤ X := by have := HP.out.bl.size; omega
  have HFl := Lib.hid (show ∀ z ∈ F, z < w.heap.size from fun z hz => by
    obtain ⟨⟨_, _, _, _, _, _, h3⟩, _, _⟩ := HP.out
    exact (h3 z hz).1)
  obtain ⟨T, hT⟩ : ∃ T, cs.P.map Pl.t = T := ⟨_, rfl⟩
  rw [hT] at HTl HTg
  have HeT := Lib.hid hT
  have hX6l := HX6.out.lt
  obtain ⟨i0, hi, hz0, hz1, hz2⟩ := info_parts Tryz.info3
  have Hi := Lib.hid hi
  have Hz0 := Lib.hid hz0
  have Hz1 := Lib.hid hz1
  have Hz2 := Lib.hid hz2
  clear hi hz0 hz1 hz2
  clear hok hT HX5 HIn5 HP5 HKw5 HBz5 hz5 HNm Hcz Hcs
  go_loopw [36] (fun vi wr => ∃ (k : Nat) (ta : Option Addr) (tk : Nat), k ≤ N ∧ vi = .int .i64 k ∧ Blk wr X 52 [.slice ga N ka, .slice ta k tk, .slice ia nL ik, .int .i64 0, .int .i64 0, .int .i64 0, .slice none 0 0, .int .i64 0, .int .i64 1000] ∧ wr.ownsRow w6.heap.size 3 1 (.slice ta k tk) k ((T.take k).flatMap pcs) ∧ Only [X] w6 wr) (fun vi _ => N - (intOf vi).toNat)
  case atStart => exact ⟨0, none, 0, Nat.zero_le _, rfl, HX6.out, World.ownsRow_nil _ _ _ _, Only.refl _ _⟩
  case round =>
    obtain ⟨k, ta, tk, hk, rfl, hx, hown, hon⟩ := hrel
    have HXr := Lib.hid hx
    have HOw := Lib.hid hown
    have HOn := Lib.hid hon
    have HPr := Lib.hid (HP6.out.apart hon (fun z hz => by
      rw [List.mem_singleton] at hz
      subst hz
      exact ⟨hX0, .inr (blk_ty HX6.out)⟩))
    have hlX := hx.lt
    have hwr := hon.size
    by_cases hlt : k < N
    · obtain ⟨g, hg⟩ := mem_at (l := l) (k := k) (by rw [HNN.out]; exact hlt)
      have hNo := HNo.out
      unfold OwnL at hNo
      rw [HNN.out] at hNo
      obtain ⟨bn, hna, -, hbn⟩ := own_blk hNo (by omega)
      obtain ⟨bn', on, e1, -, hcn⟩ := HNr.out (by rw [HNN.out]; omega)
      rw [hna] at e1
      injection e1 with e1
      injection e1 with e1 e4
      subst e1 e4
      have hnty : TyAt w6 bn 9 := own_ty hNo (by rw [hna]; rfl)
      have n0 := txt_cell (hcn k g hg)
      rw [Nat.mul_one, Nat.zero_add] at n0
      have hbX : bn ≠ X := hnty.ne (blk_ty HX6.out) (by decide)
      have n0 := (World.cell?_of_block (a := ⟨bn, k, none⟩) (hon.block bn hbn (by rw [List.mem_singleton]; exact hbX))).trans n0
      have hbnr : bn < wr.heap.size := by omega
      obtain ⟨S, hS⟩ : ∃ S, S = (Value.slice ta k tk).ownBlock.toList := ⟨_, rfl⟩
      have HS := Lib.hid hS
      have hST : ∀ z ∈ S, TyAt wr z 3 := fun z hz => own_ty hown (by rw [hS] at hz; simpa using hz)
      have HST := Lib.hid hST
      have HSW := Lib.hid (show ∀ z ∈ S, z < wr.heap.size from fun z hz => (own_lt hown (by rw [hS] at hz; simpa using hz)).2)
      have HSB := Lib.hid (show ∀ z ∈ S, w6.heap.size ≤ z from fun z hz => (own_lt hown (by rw [hS] at hz; simpa using hz)).1)
      have hXS : X ∉ S := fun hm => (blk_ty hx).ne (hST X hm) (by decide) rfl
      have hnS : bn ∉ S := fun hm => by have := HSB.out bn hm; omega
      obtain ⟨tz, htz⟩ : ∃ z, cs.tgt g.nm = z := ⟨_, rfl⟩
      have htk := HTg.out k g hg
      rw [htz] at htk
      have HTk := Lib.hid (take_at htk)
      have HTc := Lib.hid (fun V (hV : Only S wr V) => pv_tgt w0 b (m + 1) cs F V (HPr.out.apart hV (fun z hz => ⟨by have := HSB.out z hz; omega, .inl (HST.out z hz)⟩)) g.nm)
      rw [htz] at HTc
      have x1 := hx.cell 1
      dsimp only [List.getElem?_cons_zero, List.getElem?_cons_succ] at x1
      rw [hna]
      clear hx hown hon hST hS htz htk hcn hnty hNo hg hbX
      go_upto_region 9 with (fail)
      have hcH := heldS_cell (S := S)
      refine region_turn S 6 8 (by kernel_rfl) (by kernel_rfl) (by kernel_rfl) ?_
      dsimp only [List.take, List.drop]
      repeat
        ((with_reducible refine turnStep (fun K hK => ?_))
         (have HK := Lib.hid hK)
         clear hK
         (apply turnInl (by decide)
          · intro r n hf
            have Hf := Lib.hid hf
            clear hf
            (first
              | (fail)
              | (unfold relAt
                 go_simp
                 (first | (refine relUpon_val ?_ (Below.refl _ _); exact rfl) | exact rfl | (refine relUpon_enter ?_; (go_at_call 19; (with_reducible refine (HTc.out _ n.only).mono ?_); rintro e w9 ⟨rfl, hb⟩; exact ⟨⟨_, rfl, rfl⟩, hb⟩)))))
          (simp only [Act.put, List.setIfInBounds_toArray, List.set_cons_zero, List.set_cons_succ])
          (with_reducible refine HK.out _ _ ?_)
          clear HK K))
      (with_reducible refine turnStep (fun K hK => ?_))
      (have HK := Lib.hid hK)
      clear hK
      refine turnInr (by decide) (NewRow wr 3 [.int .i64 tz] 1) (NewRow.stays HSW.out _ _ _) (fun r n hf => ?_) ?_
      · have Hf := Lib.hid hf
        clear hf HK K
        unfold relAt
        (skip)
        go_simp
        ((refine relUpon_val ?_ ?_; exact NewRow.mk n _ _ _; exact (Below.refl _ _).alloc (Nat.le_refl _) _))
      (simp only [Act.put, List.setIfInBounds_toArray, List.set_cons_zero, List.set_cons_succ])
      (with_reducible refine HK.out _ _ ?_)
      clear HK K
      (with_reducible refine turnStep (fun K hK => ?_))
      (have HK := Lib.hid hK)
      clear hK
      refine turnApp (by decide) (fun u w' => ∃ z cap, u = .slice (some ⟨z, 0, none⟩) (k + 1) cap ∧ w'.ownsRow w6.heap.size 3 1 u (k + 1) ((T.take k).flatMap pcs ++ [.int .i64 tz])) ((fun u w1 w' hb ⟨z, cap, e, h⟩ => ⟨z, cap, e, own_kept h hb⟩)) (fun r n hf => ?_) ?_
      · have Hf := Lib.hid hf
        clear hf HK K
        ((obtain ⟨Bx, e1, hB, hb⟩ := given_at Hf.out 0 rfl (by dsimp only; decide +kernel); refine turn_append rfl _ _ _ rfl w6.heap.size 3 i0 _ 1 8 Tryz.underlying46 Hi.out Hz0.out Hz1.out Hz2.out rfl (by decide) (.slice ta k tk) k ((T.take k).flatMap pcs) rfl (own_kept HOw.out n.below) ⟨Bx, 0, none⟩ 1 1 [.int .i64 tz] e1 rfl (NewRow.news hb) (by simp [Value.oneCell']) (by decide) (by unfold maxLen; omega) (by omega) (by have := n.below.size; omega) (fun z hz => by rw [HS.out, hz]; simp) ?_; intro z cap w' k1 k2 k3; exact ⟨z, cap, rfl, k1⟩))
      (simp only [Act.put, List.setIfInBounds_toArray, List.set_cons_zero, List.set_cons_succ])
      (with_reducible refine HK.out _ _ ?_)
      clear HK K
      repeat
        ((with_reducible refine turnStep (fun K hK => ?_))
         (have HK := Lib.hid hK)
         clear hK
         (apply turnInl (by decide)
          · intro r n hf
            have Hf := Lib.hid hf
            clear hf
            (first
              | (fail)
              | (unfold relAt
                 go_simp
                 (first | (refine relUpon_val ?_ (Below.refl _ _); exact rfl) | exact rfl | (refine relUpon_enter ?_; fail))))
          (simp only [Act.put, List.setIfInBounds_toArray, List.set_cons_zero, List.set_cons_succ])
          (with_reducible refine HK.out _ _ ?_)
          clear HK K))
      refine turnNil ?_
      intro r8 n8 hx8
      clear hcH
      (try simp only [List.nil_append, List.cons_append, List.mem_cons, List.not_mem_nil, or_false, forall_eq_or_imp, forall_eq, false_implies, implies_true] at hx8)
      obtain ⟨w8, ho8⟩ := n8
      (try dsimp only)
      obtain ⟨-, z, cap, e1, hown8⟩ := hx8
      have e1 : r8 6 = _ := e1
      dsimp only at hown8
      rw [e1] at hown8
      rw [e1]
      have HX8 := Lib.hid (HXr.out.only ho8 hXS)
      have HO8 := Lib.hid hown8
      have HN8 := Lib.hid ho8
      have x8 := HX8.out.cell 1
      have f8 := HX8.out.frozen 1
      have hX8 := HX8.out.lt
      dsimp only [List.getElem?_cons_zero, List.getElem?_cons_succ] at x8
      clear e1 hown8 ho8 x1 n0
      go_wp2
      go_roundw
      case rel =>
        have ho := (Only.refl [X] w8).setCell (p := ⟨X, 1, none⟩) (.inl (List.mem_singleton.2 rfl)) (.slice (some ⟨z, 0, none⟩) (k + 1) cap)
        refine ⟨k + 1, some ⟨z, 0, none⟩, cap, by omega, by go_num, HX8.out.set 1 _, ?_, (HOn.out.trans2 HN8.out fun y hy => .inr (HSB.out y hy)).setCell (p := ⟨X, 1, none⟩) (.inl (List.mem_singleton.2 rfl)) _⟩
        have h9 := own_apart HO8.out HX8.out ho (by decide)
        rw [HTk.out, List.flatMap_append]
        exact h9
      case measure => simp [intOf]; omega
    · obtain rfl : N = k := by omega
      have hown2 : OwnL pcs 1 w6.heap.size 3 T (.slice ta T.length tk) wr := by
        have h9 := hown
        rw [List.take_of_length_le (Nat.le_of_eq HTl.out)] at h9
        unfold OwnL
        rw [HTl.out]
        exact h9
      have hinr : OwnL irow 5 w.heap.size 62 cs.L (.slice ia cs.L.length ik) wr := by
        have h9 := HIn6.out
        exact own_apart h9 HX6.out hon (by decide)
      have hsin : StIn wr ⟨ga, l, ka, ta, T, tk, ia, cs.L, ik, 0, 0, 0, none, [], 0, 0, 1000⟩ := by
        obtain ⟨a1, k1, e1, n1, r1⟩ := OwnL.isL pcs_len (by decide) hown2
        obtain ⟨a2, k2, e2, n2, r2⟩ := OwnL.isL irow_len (by decide) hinr
        injection e1 with e1 _ f1
        injection e2 with e2 _ f2
        rw [← e1] at n1 r1
        rw [← e2] at n2 r2
        rw [← f1] at n1
        rw [← f2] at n2
        exact ⟨HF.out.mono HPr.out.bl, fun g hg => (HI.out g hg).mono HPr.out.bl, r1, r2, RowsAt.nil, HNl.out, n1, n2, fun _ => ⟨rfl, rfl⟩⟩
      have hsok : StOk ⟨ga, l, ka, ta, T, tk, ia, cs.L, ik, 0, 0, 0, none, [], 0, 0, 1000⟩ := HSo.out.alike ⟨rfl, HeT.out.symm, rfl, rfl, rfl, rfl, rfl, rfl, rfl⟩
      have hcp := copied_any _ wr hsin hsok
      dsimp only at hcp
      rw [HNN.out, HTl.out, HnL.out, List.length_nil] at hcp
      have HCp := Lib.hid hcp
      have HRx := Lib.hid (hx.range 0 [.slice ga N ka, .slice ta N tk, .slice ia nL ik, .int .i64 0, .int .i64 0, .int .i64 0, .slice none 0 0, .int .i64 0, .int .i64 1000] rfl)
      have HBzr := Lib.hid (HBz6.out.only hon (by rw [List.mem_singleton]; omega))
      have HKr := Lib.hid (HK6.out.trans (w' := w6) ⟨hon.size, fun z hz => hon.block z (by have := HFl.out z hz; omega) (by rw [List.mem_singleton]; have := HFl.out z hz; omega)⟩)
      clear hx hown hon hown2 hinr hsin hsok hcp HXr HOw HOn HP6 HK6 HBz6 HX6 HIn6 HNr HNo
      go_wp2_with (first
        | ((with_reducible refine at_load (ty := 52) ?_); refine load_cells rfl 52 (.tmp 14) rfl X 0 rfl [.slice ga N ka, .slice ta N tk, .slice ia nL ik, .int .i64 0, .int .i64 0, .int .i64 0, .slice none 0 0, .int .i64 0, .int .i64 1000] _ Tryz.underlying52 rfl (by kernel_rfl) HRx.out ?_)
        | (go_at_call 35; (with_reducible refine HCp.out.mono ?_); rintro e w7 ⟨⟨s', rfl, hso, hal⟩, hb⟩; have HO7 := Lib.hid hso; have HA7 := Lib.hid hal; have HP7 := Lib.hid (HPr.out.below hb); have HK7 := Lib.hid (HKr.out.trans (Kept.below HPr.out hb)); have HBz7 := Lib.hid (HBzr.out.below hb); have hz7 := hb.size; clear hso hal hb)
        | ((with_reducible refine at_store (ty := 52) ?_); refine wpList_store_mid rfl 52 (.tmp 12) (.tmp 50) rfl (w.heap.size + 1) 0 _ rfl rfl (HBz7.out.there 0 9 (Nat.le_of_ble_eq_true rfl)) (by kernel_rfl) (by rw [← Array.all_toList]; rfl) ?_; obtain ⟨W5, hW5⟩ : ∃ W5, W5 = w7.setCells (w.heap.size + 1) 0 [.slice s'.ga s'.C.length s'.gk, .slice s'.ta s'.T.length s'.tk, .slice s'.ia s'.L.length s'.ik, .int .i64 s'.c0, .int .i64 s'.c1, .int .i64 s'.c2, .slice s'.ra s'.R.length s'.rk, .int .i64 s'.un, .int .i64 s'.sh] := ⟨_, rfl⟩; (show wpList _ _ _ _ _ (w7.setCells (w.heap.size + 1) 0 [.slice s'.ga s'.C.length s'.gk, .slice s'.ta s'.T.length s'.tk, .slice s'.ia s'.L.length s'.ik, .int .i64 s'.c0, .int .i64 s'.c1, .int .i64 s'.c2, .slice s'.ra s'.R.length s'.rk, .int .i64 s'.un, .int .i64 s'.sh])); rw [← hW5]; have HO5 := Lib.hid (show Only [w.heap.size + 1] w7 W5 from by rw [hW5]; exact Only.setCells (.inl (by simp)) (Only.refl _ _) _ _); have HY5 := Lib.hid (show Blk W5 (w.heap.size + 1) 52 [.slice s'.ga s'.C.length s'.gk, .slice s'.ta s'.T.length s'.tk, .slice s'.ia s'.L.length s'.ik, .int .i64 s'.c0, .int .i64 s'.c1, .int .i64 s'.c2, .slice s'.ra s'.R.length s'.rk, .int .i64 s'.un, .int .i64 s'.sh] from by rw [hW5]; exact HBz7.out.setCells 0 _); clear hW5))
      have c0 := HY5.out.cell 0
      have c1 := HY5.out.cell 1
      have c2 := HY5.out.cell 2
      have c3 := HY5.out.cell 3
      have c4 := HY5.out.cell 4
      have c5 := HY5.out.cell 5
      have c6 := HY5.out.cell 6
      have c7 := HY5.out.cell 7
      have c8 := HY5.out.cell 8
      dsimp only [List.getElem?_cons_zero, List.getElem?_cons_succ] at c0 c1 c2 c3 c4 c5 c6 c7 c8
      have hw0 := HP.out.bl.size
      refine bodyPost_ret (v := .tuple #[.agg #[.slice s'.ga s'.C.length s'.gk, .slice s'.ta s'.T.length s'.tk, .slice s'.ia s'.L.length s'.ik, .int .i64 s'.c0, .int .i64 s'.c1, .int .i64 s'.c2, .slice s'.ra s'.R.length s'.rk, .int .i64 s'.un, .int .i64 s'.sh], .int .i64 0]) (by simp [results, Tryz.results13, go_sem, *]) rfl ⟨s', rfl, (HO7.out.only HO5.out (by simp; omega)).less (by omega), ?_, ?_, ?_⟩
      · have h := HA7.out
        exact ⟨h.c, h.t.trans HeT.out.symm, h.l, h.r, h.c0, h.c1, h.c2, h.un, h.sh⟩
      · exact HP7.out.apart HO5.out (fun z hz => by
          rw [List.mem_singleton] at hz
          subst hz
          exact ⟨by omega, .inr (blk_ty HBz7.out)⟩)
      · exact HK7.out.trans ⟨HO5.out.size, fun z hz => HO5.out.block z (by have := HFl.out z hz; omega) (by rw [List.mem_singleton]; have := HFl.out z hz; omega)⟩
end Go.Proofs.YtmkdfcggjlhcpaaGreatDoor
namespace Go.Proofs.YtmkdfcggjlhcpaaGreatDoor
open Go.ChangeShapes Go.WideShapes Go.ChangeAt Go.RowKit
set_option linter.unusedVariables false
set_option linter.unusedSimpArgs false
theorem cells_gps : Tryz.prog.cellsOf 22 = 1 := by kernel_rfl
theorem cells_call : Tryz.prog.cellsOf 25 = 3 := by kernel_rfl
theorem open_nested_in {α : Type} {enc : α → List Value} {K : Nat} {In : World → α → Prop} {H : Type} {ec : TypeId × Value → H} {P : Program} {W : World} {t e : TypeId} {fuel : Nat} {a : Option Addr} {len cap : Nat} {y : DataW H × List MemPlace}
    (ht : P.underlying t = some (.slice e)) (hE : P.cellsOf e = K) (hE0 : 0 < K)
    (hdec : ∀ (cs : List Value) (fuel : Nat) (y : DataW H × List MemPlace), cs.length = K → DataW.trod ec P W 0 (fun _ => true) true fuel e cs = some y → ∃ x, cs = enc x ∧ In W x)
    (h : DataW.trod ec P W 0 (fun _ => true) true fuel t [.slice a len cap] = some y) :
    ∃ l : List α, l.length = len ∧ RowsAt enc K W a l ∧ len ≤ maxLen ∧ ∀ x ∈ l, In W x := by
  obtain ⟨l, h1, h2, h3⟩ := open_nested (α := {x : α // In W x}) (enc := fun x => enc x.1) ht hE hE0 (fun cs fuel y hl hy => by
    obtain ⟨x, e, hx⟩ := hdec cs fuel y hl hy
    exact ⟨⟨x, hx⟩, e⟩) h
  refine ⟨l.map Subtype.val, by rw [List.length_map]; exact h1, rows_val h2, h3, fun x hx => ?_⟩
  obtain ⟨y, _, rfl⟩ := List.mem_map.1 hx
  exact y.2
structure Cv where
  what : ByteArray
  nm : ByteArray
  n : Int
def cvrow (c : Cv) : List Value := [.string c.what, .string c.nm, .int .i64 c.n]
def CvIn (w : World) (c : Cv) : Prop := -9223372036854775808 ≤ c.n ∧ c.n ≤ 9223372036854775807
set_option maxRecDepth 100000 in
theorem call_open {H : Type} {enc : TypeId × Value → H} {W : World} {fuel : Nat} {cs : List Value} {y : DataW H × List MemPlace} (hl : cs.length = 3)
    (h : DataW.trod enc Tryz.prog W 0 (fun _ => true) true fuel 25 cs = some y) : ∃ x : Cv, cs = cvrow x ∧ CvIn W x := by
  obtain ⟨xs, n, _, hx, _, hlen, hg⟩ := DataW.trod_struct Tryz.underlying25 h
  match cs, hl with
  | [c0, c1, c2], _ =>
    match xs, hlen with
    | [y0, y1, y2], _ =>
      have g0 := hg 0 _ rfl
      have g1 := hg 1 _ rfl
      have g2 := hg 2 _ rfl
      obtain ⟨s0, q0, _⟩ := DataW.trod_string Tryz.underlying9 g0
      obtain ⟨s1, q1, _⟩ := DataW.trod_string Tryz.underlying9 g1
      obtain ⟨n2, q2, _, w2⟩ := DataW.trod_int Tryz.underlying3 g2
      simp [cells_int, Tryz.cells9] at q0 q1 q2
      refine ⟨⟨s0, s1, n2⟩, by rw [q0, q1, q2]; rfl, ?_⟩
      simpa [CvIn, Lit.wf, IntKind.min, IntKind.max, IntKind.signed, IntKind.bits] using w2
end Go.Proofs.YtmkdfcggjlhcpaaGreatDoor
namespace Go.Proofs.YtmkdfcggjlhcpaaGreatDoor
open Go.RowKit
set_option linter.unusedVariables false
set_option linter.unusedSimpArgs false
abbrev pg : ByteArray := ⟨#[103]⟩
abbrev pg1 : ByteArray := ⟨#[103, 45, 49]⟩
abbrev pg2 : ByteArray := ⟨#[103, 45, 50]⟩
abbrev sJump : ByteArray := ⟨#[106, 117, 109, 112]⟩
def pK : Mac := ⟨emp, ⟨#[103]⟩, 1000, 0, 0, 0, 0, none, 0, [], none, 0, [], true⟩
def pG : Gp := ⟨⟨#[103]⟩, 1, 3, pK, 0, 0⟩
theorem pK_in (w : World) : MacIn w pK := ⟨⟨RowsAt.nil, RowsAt.nil, Nat.zero_le _, Nat.zero_le _⟩, fun _ => ⟨rfl, rfl⟩, Nat.le_refl _, fun _ => ⟨rfl, rfl⟩, Nat.le_refl _⟩
theorem pG_light : lightGs [pG] = true := by decide +kernel
theorem pG_right : rightGs [pG] = true := by decide +kernel
theorem pG_in (w : World) : ∀ g ∈ [pG], MacIn w g.like := fun g hg => by
  obtain rfl : g = pG := by simpa using hg
  exact pK_in w
abbrev kL : List Ins := [⟨pg1, pg, 2, 0, 0⟩, ⟨pg2, pg, 4, 0, 0⟩]
def kS (q0 q1 q2 : Nat) : St := ⟨some ⟨q0, 0, none⟩, [pG], 1, some ⟨q1, 0, none⟩, [2], 1, some ⟨q2, 0, none⟩, kL, 2, 3, 0, 0, none, [], 0, 0, 0⟩
theorem kS_ok (q0 q1 q2 : Nat) : StOk (kS q0 q1 q2) := by
  refine ⟨rfl, by show (1 : Nat) ≤ 16; decide, fun x hx => ?_, fun x hx => ?_, fun j x t hx ht => ?_, by show (2 : Nat) ≤ 200000; decide, by show (0 : Nat) ≤ 1000; decide, by show rightC 3 0 0 = true; decide +kernel⟩
  · obtain rfl : x = pG := by simpa [kS] using hx
    exact ⟨by decide, by decide⟩
  · obtain rfl : x = pG := by simpa [kS] using hx
    decide
  · match j, hx, ht with
    | 0, hx, ht =>
      obtain rfl : pG = x := by simpa [kS] using hx
      obtain rfl : (2 : Int) = t := by simpa [kS] using ht
      decide
    | j + 1, hx, ht => simp [kS] at hx
theorem kS_w (q0 q1 q2 : Nat) : bX (kS q0 q1 q2) pg 1 = true := by kernel_rfl
theorem k_up1 (q0 q1 q2 : Nat) : whyP (kS q0 q1 q2) sUp pg 1 true = 0 := by kernel_rfl
theorem k_up2 (q0 q1 q2 : Nat) (b : Bool) : whyP (kS q0 q1 q2) sUp pg 2 b = 21 := by kernel_rfl
theorem k_jump (q0 q1 q2 : Nat) (b : Bool) : whyP (kS q0 q1 q2) sJump emp 0 b = 14 := by kernel_rfl
theorem k_clean (q0 q1 q2 : Nat) (b : Bool) : whyP (kS q0 q1 q2) sClean pg2 0 b = 0 := by kernel_rfl
theorem k_aftc (q0 q1 q2 : Nat) : aft (kS q0 q1 q2) sClean pg2 0 = { kS q0 q1 q2 with T := [1], L := [⟨pg1, pg, 2, 0, 0⟩, ⟨pg2, pg, 3, 1, 0⟩] } := by kernel_rfl
theorem k_aftu (q0 q1 q2 : Nat) : aft (kS q0 q1 q2) sUp pg 1 = { kS q0 q1 q2 with T := [3] } := by kernel_rfl
theorem k_del (q0 q1 q2 : Nat) (b : Bool) : whyP { kS q0 q1 q2 with T := [1], L := [⟨pg1, pg, 2, 0, 0⟩, ⟨pg2, pg, 3, 1, 0⟩] } sDelete pg1 0 b = 20 := by kernel_rfl
theorem k_upx (q0 q1 q2 : Nat) (b : Bool) : whyP { kS q0 q1 q2 with T := [3] } sUp pg 1 b = 21 := by kernel_rfl
section
variable {q0 q1 q2 : Nat} {w : World}
theorem kw_why {what nm : ByteArray} {n z : Int} (hI : StIn w (kS q0 q1 q2)) (hn0 : -9223372036854775808 ≤ n) (hn1 : n ≤ 9223372036854775807) (h : whyP (kS q0 q1 q2) what nm n (bX (kS q0 q1 q2) nm n) = z) :
    Calls Tryz.prog 24 #[.agg #[.slice (kS q0 q1 q2).ga (kS q0 q1 q2).C.length (kS q0 q1 q2).gk, .slice (kS q0 q1 q2).ta (kS q0 q1 q2).T.length (kS q0 q1 q2).tk, .slice (kS q0 q1 q2).ia (kS q0 q1 q2).L.length (kS q0 q1 q2).ik, .int .i64 (kS q0 q1 q2).c0, .int .i64 (kS q0 q1 q2).c1, .int .i64 (kS q0 q1 q2).c2, .slice (kS q0 q1 q2).ra (kS q0 q1 q2).R.length (kS q0 q1 q2).rk, .int .i64 (kS q0 q1 q2).un, .int .i64 (kS q0 q1 q2).sh], .agg #[.string what, .string nm, .int .i64 n]] w fun e w' => e = .returned (.int .i64 z) ∧ Below w.heap.size w w' := by
  refine (why_any _ what nm n w hI (kS_ok q0 q1 q2) hn0 hn1).mono ?_
  rintro e w' ⟨⟨b, rfl, hb⟩, hB⟩
  rw [hb, h]
  exact ⟨rfl, hB⟩
structure KL (w : World) (a1 : Option Addr) (k1 b1 k2 b2 k3 : Nat) (a4 : Option Addr) (k4 : Nat) : Prop where
  lt1 : b1 < w.heap.size
  lt2 : b2 < w.heap.size
  c1 : w.cell? ⟨b1, 0, none⟩ = some (.int .i64 1)
  c7 : w.cell? ⟨b2, 7, none⟩ = some (.int .i64 3)
  why : ∀ V, Below w.heap.size w V → Calls Tryz.prog 24 #[.agg #[.slice a1 1 k1, .slice (some ⟨b1, 0, none⟩) 1 k2, .slice (some ⟨b2, 0, none⟩) 2 k3, .int .i64 3, .int .i64 0, .int .i64 0, .slice a4 0 k4, .int .i64 0, .int .i64 0], .agg #[.string ⟨#[100, 101, 108, 101, 116, 101]⟩, .string ⟨#[103, 45, 49]⟩, .int .i64 0]] V fun e w' => e = .returned (.int .i64 20) ∧ Below V.heap.size V w'
theorem KL.mono {w w' : World} {a1 : Option Addr} {k1 b1 k2 b2 k3 : Nat} {a4 : Option Addr} {k4 : Nat} (h : KL w a1 k1 b1 k2 b2 k3 a4 k4) (hb : Below w.heap.size w w') : KL w' a1 k1 b1 k2 b2 k3 a4 k4 :=
  ⟨Nat.lt_of_lt_of_le h.lt1 hb.size, Nat.lt_of_lt_of_le h.lt2 hb.size, (hb.cell (p := ⟨b1, 0, none⟩) h.lt1).trans h.c1, (hb.cell (p := ⟨b2, 7, none⟩) h.lt2).trans h.c7, fun V hV => h.why V (hb.trans (hV.mono hb.size))⟩
theorem kw_after (hI : StIn w (kS q0 q1 q2)) :
    Calls Tryz.prog 17 #[.agg #[.slice (kS q0 q1 q2).ga (kS q0 q1 q2).C.length (kS q0 q1 q2).gk, .slice (kS q0 q1 q2).ta (kS q0 q1 q2).T.length (kS q0 q1 q2).tk, .slice (kS q0 q1 q2).ia (kS q0 q1 q2).L.length (kS q0 q1 q2).ik, .int .i64 (kS q0 q1 q2).c0, .int .i64 (kS q0 q1 q2).c1, .int .i64 (kS q0 q1 q2).c2, .slice (kS q0 q1 q2).ra (kS q0 q1 q2).R.length (kS q0 q1 q2).rk, .int .i64 (kS q0 q1 q2).un, .int .i64 (kS q0 q1 q2).sh], .agg #[.string sClean, .string pg2, .int .i64 0]] w fun e w' => (∃ a1 k1 b1 k2 b2 k3 a4 k4, e = .returned (.tuple #[.agg #[.slice a1 1 k1, .slice (some ⟨b1, 0, none⟩) 1 k2, .slice (some ⟨b2, 0, none⟩) 2 k3, .int .i64 3, .int .i64 0, .int .i64 0, .slice a4 0 k4, .int .i64 0, .int .i64 0], .int .i64 0]) ∧ KL w' a1 k1 b1 k2 b2 k3 a4 k4) ∧ Below w.heap.size w w' := by
  refine (after_any _ sClean pg2 0 w hI (kS_ok q0 q1 q2) (by decide) (by decide)).mono ?_
  rintro e w' ⟨⟨b, hb, h | ⟨h0, s, rfl, hO, hA⟩⟩, hB⟩
  · obtain ⟨z, hz, h1, -⟩ := h
    rw [k_clean] at h1
    exact absurd h1.symm hz
  · have hk : StOk s := (aft_ok (kS_ok q0 q1 q2) h0).alike hA
    have hSI := hO.sIn hk.gl
    have hT : s.T = [1] := by rw [hA.t, k_aftc]
    have hL : s.L = [⟨pg1, pg, 2, 0, 0⟩, ⟨pg2, pg, 3, 1, 0⟩] := by rw [hA.l, k_aftc]
    have hC : s.C.length = 1 := by
      have := nrm_len hA.c
      rw [this, k_aftc]
      rfl
    have hR : s.R = [] := by rw [hA.r, k_aftc]; rfl
    have e0 : s.c0 = 3 := by rw [hA.c0, k_aftc]; rfl
    have e1 : s.c1 = 0 := by rw [hA.c1, k_aftc]; rfl
    have e2 : s.c2 = 0 := by rw [hA.c2, k_aftc]; rfl
    have e3 : s.un = 0 := by rw [hA.un, k_aftc]; rfl
    have e4 : s.sh = 0 := by rw [hA.sh, k_aftc]; rfl
    have hw : ∀ b, whyP s sDelete pg1 0 b = 20 := fun b => by rw [hA.why, k_aftc, k_del]
    obtain ⟨z1, hz1, -, hlt1⟩ := own_blk hO.t (by rw [hT]; exact Nat.zero_lt_one)
    obtain ⟨z2, hz2, -, hlt2⟩ := own_blk hO.i (by rw [hL]; decide)
    have x1 : w'.cell? ⟨z1, 0, none⟩ = some (.int .i64 1) := by
      obtain ⟨z', o, f1, f2, f3⟩ := hSI.t (by rw [hT]; exact Nat.zero_lt_one)
      rw [hz1] at f1
      injection f1 with f1
      injection f1 with f1 f4
      subst f1 f4
      have := int_cell (f3 0 1 (by rw [hT]; rfl))
      simpa using this
    have x7 : w'.cell? ⟨z2, 7, none⟩ = some (.int .i64 3) := by
      obtain ⟨z', o, f1, f2, f3⟩ := hSI.i (by rw [hL]; decide)
      rw [hz2] at f1
      injection f1 with f1
      injection f1 with f1 f4
      subst f1 f4
      obtain ⟨-, -, x2, -⟩ := irow_cells (f3 1 ⟨pg2, pg, 3, 1, 0⟩ (by rw [hL]; rfl))
      simpa using x2
    have hv : (.agg #[.slice s.ga s.C.length s.gk, .slice s.ta s.T.length s.tk, .slice s.ia s.L.length s.ik, .int .i64 s.c0, .int .i64 s.c1, .int .i64 s.c2, .slice s.ra s.R.length s.rk, .int .i64 s.un, .int .i64 s.sh] : Value) = .agg #[.slice s.ga 1 s.gk, .slice (some ⟨z1, 0, none⟩) 1 s.tk, .slice (some ⟨z2, 0, none⟩) 2 s.ik, .int .i64 3, .int .i64 0, .int .i64 0, .slice s.ra 0 s.rk, .int .i64 0, .int .i64 0] := by
      rw [hC, hz1, hz2, e0, e1, e2, e3, e4, hT, hL, hR]
      rfl
    refine ⟨⟨s.ga, s.gk, z1, s.tk, z2, s.ik, s.ra, s.rk, by rw [hv], hlt1, hlt2, x1, x7, fun V hV => ?_⟩, hB⟩
    rw [← hv]
    refine (why_any s sDelete pg1 0 V (hSI.mono hV) hk (by decide) (by decide)).mono ?_
    rintro e w' ⟨⟨b, rfl, hb⟩, hB⟩
    rw [hw]
    exact ⟨rfl, hB⟩
structure KU (B : Nat) (w : World) (s : St) : Prop where
  own : SOwn B s w
  o : StOk s
  up : ∀ b, whyP s sUp pg 1 b = 21
theorem kw_up (hI : StIn w (kS q0 q1 q2)) :
    Calls Tryz.prog 17 #[.agg #[.slice (kS q0 q1 q2).ga (kS q0 q1 q2).C.length (kS q0 q1 q2).gk, .slice (kS q0 q1 q2).ta (kS q0 q1 q2).T.length (kS q0 q1 q2).tk, .slice (kS q0 q1 q2).ia (kS q0 q1 q2).L.length (kS q0 q1 q2).ik, .int .i64 (kS q0 q1 q2).c0, .int .i64 (kS q0 q1 q2).c1, .int .i64 (kS q0 q1 q2).c2, .slice (kS q0 q1 q2).ra (kS q0 q1 q2).R.length (kS q0 q1 q2).rk, .int .i64 (kS q0 q1 q2).un, .int .i64 (kS q0 q1 q2).sh], .agg #[.string sUp, .string pg, .int .i64 1]] w fun e w' => (∃ s, e = .returned (.tuple #[.agg #[.slice s.ga s.C.length s.gk, .slice s.ta s.T.length s.tk, .slice s.ia s.L.length s.ik, .int .i64 s.c0, .int .i64 s.c1, .int .i64 s.c2, .slice s.ra s.R.length s.rk, .int .i64 s.un, .int .i64 s.sh], .int .i64 0]) ∧ KU w.heap.size w' s) ∧ Below w.heap.size w w' := by
  refine (after_any _ sUp pg 1 w hI (kS_ok q0 q1 q2) (by decide) (by decide)).mono ?_
  rintro e w' ⟨⟨b, hb, h | ⟨h0, s, rfl, hO, hA⟩⟩, hB⟩
  · obtain ⟨z, hz, h1, -⟩ := h
    rw [hb, kS_w, k_up1] at h1
    exact absurd h1.symm hz
  · have hk : StOk s := (aft_ok (kS_ok q0 q1 q2) h0).alike hA
    exact ⟨⟨s, rfl, hO, hk, fun b => by rw [hA.why, k_aftu, k_upx]⟩, hB⟩
theorem kw_up2 {B : Nat} {s : St} (h : KU B w s) :
    Calls Tryz.prog 17 #[.agg #[.slice s.ga s.C.length s.gk, .slice s.ta s.T.length s.tk, .slice s.ia s.L.length s.ik, .int .i64 s.c0, .int .i64 s.c1, .int .i64 s.c2, .slice s.ra s.R.length s.rk, .int .i64 s.un, .int .i64 s.sh], .agg #[.string sUp, .string pg, .int .i64 1]] w fun e w' => e = .returned (.tuple #[.agg #[.slice none 0 0, .slice none 0 0, .slice none 0 0, .int .i64 0, .int .i64 0, .int .i64 0, .slice none 0 0, .int .i64 0, .int .i64 0], .int .i64 21]) ∧ Below w.heap.size w w' := by
  refine (after_any _ sUp pg 1 w (h.own.sIn h.o.gl) h.o (by decide) (by decide)).mono ?_
  rintro e w' ⟨⟨b, hb, h1 | ⟨h0, -⟩⟩, hB⟩
  · obtain ⟨z, hz, h1, rfl⟩ := h1
    rw [h.up] at h1
    subst h1
    exact ⟨rfl, hB⟩
  · rw [h.up] at h0
    exact absurd h0 (by decide)
end
end Go.Proofs.YtmkdfcggjlhcpaaGreatDoor
namespace Go.Proofs.YtmkdfcggjlhcpaaGreatDoor
open Go.RowKit
set_option linter.unusedVariables false
set_option linter.unusedSimpArgs false
theorem KU.only {B : Nat} {w w' : World} {s : St} {S : List Nat} (h : KU B w s) (ho : Only S w w') (hS : ∀ k ∈ S, k < B) : KU B w' s := ⟨h.own.only ho hS, h.o, h.up⟩
theorem KU.mono {B : Nat} {w w' : World} {s : St} (h : KU B w s) (hb : Below w.heap.size w w') : KU B w' s := ⟨h.own.mono hb, h.o, h.up⟩
set_option maxRecDepth 100000 in
set_option maxHeartbeats 4000000 in
theorem kall_any (q0 q1 q2 B kc : Nat) (w : World) (hI : StIn w (kS q0 q1 q2)) (hB : B < w.heap.size) (h0 : w.rangeAt B 0 [.string ⟨#[117, 112]⟩, .string ⟨#[103]⟩, .int .i64 1]) (h1 : w.rangeAt B 3 [.string ⟨#[117, 112]⟩, .string ⟨#[103]⟩, .int .i64 1]) :
    Calls Tryz.prog 25 #[.agg #[.slice (some ⟨q0, 0, none⟩) 1 1, .slice (some ⟨q1, 0, none⟩) 1 1, .slice (some ⟨q2, 0, none⟩) 2 2, .int .i64 3, .int .i64 0, .int .i64 0, .slice none 0 0, .int .i64 0, .int .i64 0], .slice (some ⟨B, 0, none⟩) 2 kc] w fun e w' => e = .returned (.int .i64 1) ∧ Below w.heap.size w w' := by
  have H0 := Lib.hid h0
  have H1 := Lib.hid h1
  have HU := Lib.hid (fun V (hV : Below w.heap.size w V) => show Calls Tryz.prog 17 #[.agg #[.slice (some ⟨q0, 0, none⟩) 1 1, .slice (some ⟨q1, 0, none⟩) 1 1, .slice (some ⟨q2, 0, none⟩) 2 2, .int .i64 3, .int .i64 0, .int .i64 0, .slice none 0 0, .int .i64 0, .int .i64 0], .agg #[.string ⟨#[117, 112]⟩, .string ⟨#[103]⟩, .int .i64 1]] V fun e w' => (∃ s, e = .returned (.tuple #[.agg #[.slice s.ga s.C.length s.gk, .slice s.ta s.T.length s.tk, .slice s.ia s.L.length s.ik, .int .i64 s.c0, .int .i64 s.c1, .int .i64 s.c2, .slice s.ra s.R.length s.rk, .int .i64 s.un, .int .i64 s.sh], .int .i64 0]) ∧ KU V.heap.size w' s) ∧ Below V.heap.size V w' from kw_up (hI.mono hV))
  have HU2 := Lib.hid (fun (C : Nat) (s : St) V (h : KU C V s) => show Calls Tryz.prog 17 #[.agg #[.slice s.ga s.C.length s.gk, .slice s.ta s.T.length s.tk, .slice s.ia s.L.length s.ik, .int .i64 s.c0, .int .i64 s.c1, .int .i64 s.c2, .slice s.ra s.R.length s.rk, .int .i64 s.un, .int .i64 s.sh], .agg #[.string ⟨#[117, 112]⟩, .string ⟨#[103]⟩, .int .i64 1]] V fun e w' => e = .returned (.tuple #[.agg #[.slice none 0 0, .slice none 0 0, .slice none 0 0, .int .i64 0, .int .i64 0, .int .i64 0, .slice none 0 0, .int .i64 0, .int .i64 0], .int .i64 21]) ∧ Below V.heap.size V w' from kw_up2 h)
  clear hI h0 h1
  obtain ⟨W, hW⟩ : ∃ W, W = w.alloc (.cells #[.slice (some ⟨q0, 0, none⟩) 1 1, .slice (some ⟨q1, 0, none⟩) 1 1, .slice (some ⟨q2, 0, none⟩) 2 2, .int .i64 3, .int .i64 0, .int .i64 0, .slice none 0 0, .int .i64 0, .int .i64 0] 52) := ⟨_, rfl⟩
  have HX := Lib.hid (show Blk W w.heap.size 52 [.slice (some ⟨q0, 0, none⟩) 1 1, .slice (some ⟨q1, 0, none⟩) 1 1, .slice (some ⟨q2, 0, none⟩) 2 2, .int .i64 3, .int .i64 0, .int .i64 0, .slice none 0 0, .int .i64 0, .int .i64 0] by rw [hW]; exact Blk.new w _ _)
  have HW := Lib.hid (show Below w.heap.size w W by rw [hW]; exact (Below.refl _ _).alloc (Nat.le_refl _) _)
  go_enter Tryz.func25, Tryz.ntmps25
  go_upto_region 1 with (fail)
  rw [← hW]
  clear hW
  go_wp2
  go_loopw [11] (fun i wr => ∃ k : Nat, i = .int .i64 k ∧ Below w.heap.size w wr ∧ w.heap.size < wr.heap.size ∧ ((k = 0 ∧ Blk wr w.heap.size 52 [.slice (some ⟨q0, 0, none⟩) 1 1, .slice (some ⟨q1, 0, none⟩) 1 1, .slice (some ⟨q2, 0, none⟩) 2 2, .int .i64 3, .int .i64 0, .int .i64 0, .slice none 0 0, .int .i64 0, .int .i64 0]) ∨ (k = 1 ∧ ∃ C s, w.heap.size < C ∧ KU C wr s ∧ Blk wr w.heap.size 52 [.slice s.ga s.C.length s.gk, .slice s.ta s.T.length s.tk, .slice s.ia s.L.length s.ik, .int .i64 s.c0, .int .i64 s.c1, .int .i64 s.c2, .slice s.ra s.R.length s.rk, .int .i64 s.un, .int .i64 s.sh]))) (fun i _ => 2 - (intOf i).toNat)
  case atStart => exact ⟨0, rfl, HW.out, HX.out.lt, .inl ⟨rfl, HX.out⟩⟩
  case round =>
    obtain ⟨k, rfl, hbr, hlt, ⟨rfl, hx⟩ | ⟨rfl, C, s, hC, hu, hx⟩⟩ := hrel
    · have HB := Lib.hid hbr
      have HY := Lib.hid hx
      have hBr : B < wr.heap.size := Nat.lt_of_lt_of_le hB hbr.size
      clear hbr hx
      go_wp2_with (first
        | ((with_reducible refine at_load (ty := 59) ?_); refine load_cells rfl 59 (.tmp 14) rfl B 0 rfl [.string ⟨#[117, 112]⟩, .string ⟨#[103]⟩, .int .i64 1] _ Tryz.underlying59 rfl (by kernel_rfl) (rangeAt_mono H0.out hB HB.out) ?_)
        | ((with_reducible refine at_store (ty := 59) ?_); refine store_new rfl 59 (.tmp 6) (.tmp 15) rfl _ _ rfl rfl (by kernel_rfl) rfl (by rfl) rfl ?_)
        | ((with_reducible refine at_load (ty := 52) ?_); refine load_cells rfl 52 (.tmp 2) rfl w.heap.size 0 rfl [.slice (some ⟨q0, 0, none⟩) 1 1, .slice (some ⟨q1, 0, none⟩) 1 1, .slice (some ⟨q2, 0, none⟩) 2 2, .int .i64 3, .int .i64 0, .int .i64 0, .slice none 0 0, .int .i64 0, .int .i64 0] _ Tryz.underlying52 rfl (by kernel_rfl) ((HY.out.alloc _).range 0 _ rfl) ?_)
        | ((with_reducible refine at_load (ty := 59) ?_); refine load_cells rfl 59 (.tmp 6) rfl wr.heap.size 0 rfl [.string ⟨#[117, 112]⟩, .string ⟨#[103]⟩, .int .i64 1] _ Tryz.underlying59 rfl (by kernel_rfl) ((Blk.new wr 59 [.string ⟨#[117, 112]⟩, .string ⟨#[103]⟩, .int .i64 1]).range 0 _ rfl) ?_)
        | (go_at_call 17; (with_reducible refine (HU.out _ (HB.out.alloc HB.out.size _)).mono ?_); rintro e w2 ⟨⟨s, rfl, hu⟩, hb⟩; have HB2 := Lib.hid ((HB.out.alloc HB.out.size _).trans (hb.mono (HB.out.alloc HB.out.size _).size)); have HY2 := Lib.hid ((HY.out.alloc _).below hb); have HU3 := Lib.hid hu; have hz2 := hb.size; (try simp at hz2); have hlt2 : w.heap.size < w2.heap.size := (by omega); clear hu hb)
        | ((with_reducible refine at_store (ty := 52) ?_); refine store_new rfl 52 (.tmp 7) (.tmp 20) rfl _ _ rfl rfl (by kernel_rfl) rfl (by rfl) rfl ?_)
        | ((with_reducible refine at_load (ty := 52) ?_); refine load_cells rfl 52 (.tmp 7) rfl w2.heap.size 0 rfl [.slice s.ga s.C.length s.gk, .slice s.ta s.T.length s.tk, .slice s.ia s.L.length s.ik, .int .i64 s.c0, .int .i64 s.c1, .int .i64 s.c2, .slice s.ra s.R.length s.rk, .int .i64 s.un, .int .i64 s.sh] _ Tryz.underlying52 rfl (by kernel_rfl) ((Blk.new w2 52 [.slice s.ga s.C.length s.gk, .slice s.ta s.T.length s.tk, .slice s.ia s.L.length s.ik, .int .i64 s.c0, .int .i64 s.c1, .int .i64 s.c2, .slice s.ra s.R.length s.rk, .int .i64 s.un, .int .i64 s.sh]).range 0 _ rfl) ?_)
        | ((with_reducible refine at_store (ty := 52) ?_); refine wpList_store_mid rfl 52 (.tmp 2) (.tmp 25) rfl w.heap.size 0 _ rfl rfl ((HY2.out.alloc _).there 0 9 (Nat.le_of_ble_eq_true rfl)) (by kernel_rfl) (by rw [← Array.all_toList]; rfl) ?_))
      go_roundw
      case rel =>
        have hbn : Below w2.heap.size w2 (w2.alloc (.cells #[.slice s.ga s.C.length s.gk, .slice s.ta s.T.length s.tk, .slice s.ia s.L.length s.ik, .int .i64 s.c0, .int .i64 s.c1, .int .i64 s.c2, .slice s.ra s.R.length s.rk, .int .i64 s.un, .int .i64 s.sh] 52)) := (Below.refl _ _).alloc (Nat.le_refl _) _
        have ho : Only [w.heap.size] (w2.alloc (.cells #[.slice s.ga s.C.length s.gk, .slice s.ta s.T.length s.tk, .slice s.ia s.L.length s.ik, .int .i64 s.c0, .int .i64 s.c1, .int .i64 s.c2, .slice s.ra s.R.length s.rk, .int .i64 s.un, .int .i64 s.sh] 52)) ((w2.alloc (.cells #[.slice s.ga s.C.length s.gk, .slice s.ta s.T.length s.tk, .slice s.ia s.L.length s.ik, .int .i64 s.c0, .int .i64 s.c1, .int .i64 s.c2, .slice s.ra s.R.length s.rk, .int .i64 s.un, .int .i64 s.sh] 52)).setCells w.heap.size 0 [.slice s.ga s.C.length s.gk, .slice s.ta s.T.length s.tk, .slice s.ia s.L.length s.ik, .int .i64 s.c0, .int .i64 s.c1, .int .i64 s.c2, .slice s.ra s.R.length s.rk, .int .i64 s.un, .int .i64 s.sh]) := Only.setCells (.inl (by simp)) (Only.refl _ _) _ _
        have hsz := ho.size
        refine ⟨1, by go_num, ho.below (HB2.out.alloc HB2.out.size _) (HB2.out.alloc HB2.out.size _).size (by simp), ?_, .inr ⟨rfl, _, s, ?_, (HU3.out.mono hbn).only ho ?_, (HY2.out.alloc _).setCells 0 _⟩⟩
        · have := hbn.size
          exact Nat.lt_of_lt_of_le (Nat.lt_of_lt_of_le hlt2 this) hsz
        · simp
          omega
        · simp
          omega
      case measure => simp [intOf]
    · have HB := Lib.hid hbr
      have HY := Lib.hid hx
      have HK := Lib.hid hu
      have hBr : B < wr.heap.size := Nat.lt_of_lt_of_le hB hbr.size
      clear hbr hx hu
      go_wp2_with (first
        | ((with_reducible refine at_load (ty := 59) ?_); refine load_cells rfl 59 (.tmp 14) rfl B 3 rfl [.string ⟨#[117, 112]⟩, .string ⟨#[103]⟩, .int .i64 1] _ Tryz.underlying59 rfl (by kernel_rfl) (rangeAt_mono H1.out hB HB.out) ?_)
        | ((with_reducible refine at_store (ty := 59) ?_); refine store_new rfl 59 (.tmp 6) (.tmp 15) rfl _ _ rfl rfl (by kernel_rfl) rfl (by rfl) rfl ?_)
        | ((with_reducible refine at_load (ty := 52) ?_); refine load_cells rfl 52 (.tmp 2) rfl w.heap.size 0 rfl [.slice s.ga s.C.length s.gk, .slice s.ta s.T.length s.tk, .slice s.ia s.L.length s.ik, .int .i64 s.c0, .int .i64 s.c1, .int .i64 s.c2, .slice s.ra s.R.length s.rk, .int .i64 s.un, .int .i64 s.sh] _ Tryz.underlying52 rfl (by kernel_rfl) ((HY.out.alloc _).range 0 _ rfl) ?_)
        | ((with_reducible refine at_load (ty := 59) ?_); refine load_cells rfl 59 (.tmp 6) rfl wr.heap.size 0 rfl [.string ⟨#[117, 112]⟩, .string ⟨#[103]⟩, .int .i64 1] _ Tryz.underlying59 rfl (by kernel_rfl) ((Blk.new wr 59 [.string ⟨#[117, 112]⟩, .string ⟨#[103]⟩, .int .i64 1]).range 0 _ rfl) ?_)
        | (go_at_call 17; (with_reducible refine (HU2.out C s _ (HK.out.mono ((Below.refl _ _).alloc (Nat.le_refl _) _))).mono ?_); rintro e w2 ⟨rfl, hb⟩; have HB2 := Lib.hid ((HB.out.alloc HB.out.size _).trans (hb.mono (HB.out.alloc HB.out.size _).size)); clear hb)
        | ((with_reducible refine at_store (ty := 52) ?_); refine store_new rfl 52 (.tmp 7) (.tmp 20) rfl _ _ rfl rfl (by kernel_rfl) rfl (by rfl) rfl ?_))
      go_ret
      exact ⟨rfl, HB2.out.alloc HB2.out.size _⟩
end Go.Proofs.YtmkdfcggjlhcpaaGreatDoor
