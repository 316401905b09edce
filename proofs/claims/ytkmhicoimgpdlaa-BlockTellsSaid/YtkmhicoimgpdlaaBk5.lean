/-
  Block: evictAll, at any budgets.
-/
import Derived.Test.YtkmhicoimgpdlaaBg4
namespace Go.Proofs.Ytkmhicoimgpdlaa
open Go.RowKit
set_option linter.unusedVariables false
set_option linter.unusedSimpArgs false

/-- The pods stopped one after the other: which one can't be, and why. -/
def evA (l : List Bg) : List Bd → List Pd → ByteArray × Int
  | _, [] => (emp, 0)
  | bs, p :: L => if mayE l bs p.nm = 0 then evA l (evBs p.nm bs) L else (p.nm, mayE l bs p.nm)
theorem ev_mem (nm : ByteArray) : ∀ (bs : List Bd), ∀ x ∈ evBs nm bs, ∃ y ∈ bs, x.p = y.p
  | [], x, h => by cases h
  | b :: bs, x, h => by
    unfold evBs at h
    split at h
    · rcases List.mem_cons.1 h with rfl | h
      · exact ⟨b, List.mem_cons_self, rfl⟩
      · exact ⟨x, List.mem_cons_of_mem _ h, rfl⟩
    · rcases List.mem_cons.1 h with rfl | h
      · exact ⟨x, List.mem_cons_self, rfl⟩
      · obtain ⟨y, hy, e⟩ := ev_mem nm bs x h
        exact ⟨y, List.mem_cons_of_mem _ hy, e⟩
set_option maxRecDepth 100000 in
set_option maxHeartbeats 8000000 in
theorem evictall_any (d c a : Option Addr) (kd kc ka : Nat) (l : List Bg) (bs : List Bd) (L : List Pd) (w : World) (hD : BA w d l) (hG : BndL w c bs) (hI : ∀ x ∈ bs, PodAt w x.p) (hl : bs.length ≤ 1000) (hlb : ∀ x ∈ bs, x.p.labs.length ≤ 1000) (hF : RowsAt prow 20 w a L) (hL : L.length ≤ 1000000) :
    Calls Try.prog 31 #[.slice c bs.length kc, .slice d l.length kd, .slice a L.length ka] w fun e w' => e = .returned (.tuple #[.string (evA l bs L).1, .int .i64 (evA l bs L).2]) ∧ Below w.heap.size w w' := by
  obtain ⟨N, hN⟩ : ∃ N, bs.length = N := ⟨_, rfl⟩
  obtain ⟨m, hm⟩ : ∃ m, l.length = m := ⟨_, rfl⟩
  obtain ⟨n, hn⟩ : ∃ n, L.length = n := ⟨_, rfl⟩
  obtain ⟨R, hR⟩ : ∃ R, evA l bs L = R := ⟨_, rfl⟩
  have HE := Lib.hid (fun (B : List Bd) (c' : Option Addr) (kc' : Nat) (nm : ByteArray) V (hV : Below w.heap.size w V) (hB : BndL V c' B) (hBl : B.length = N) (hBm : ∀ x ∈ B, ∃ y ∈ bs, x.p = y.p) =>
    show ((mayE l B nm = 0 → Calls Try.prog 52 #[.slice d m kd, .slice c' N kc', .string nm] V fun e w' => (∃ a k, e = .returned (.tuple #[.slice a N k, .int .i64 0]) ∧ BndL w' a (evBs nm B)) ∧ Below V.heap.size V w') ∧ (¬ mayE l B nm = 0 → Calls Try.prog 52 #[.slice d m kd, .slice c' N kc', .string nm] V fun e w' => e = .returned (.tuple #[.slice none 0 0, .int .i64 (mayE l B nm)]) ∧ Below V.heap.size V w')) from by
      have hBI : ∀ x ∈ B, PodAt V x.p := fun x hx => by
        obtain ⟨y, hy, e⟩ := hBm x hx
        rw [e]
        exact (hI y hy).mono hV
      have hBb : ∀ x ∈ B, x.p.labs.length ≤ 1000 := fun x hx => by
        obtain ⟨y, hy, e⟩ := hBm x hx
        rw [e]
        exact hlb y hy
      refine ⟨fun h => ?_, fun h => ?_⟩
      · have h9 := evict_yes d c' kd kc' l B nm V (hD.mono hV) hB hBI (by omega) hBb h
        rw [hBl, hm] at h9
        exact h9
      · have h9 := evict_no d c' kd kc' l B nm V (hD.mono hV) hB hBI (by omega) hBb h
        rw [hBl, hm] at h9
        exact h9)
  have HR := Lib.hid hR
  have Hn := Lib.hid hn
  have HN := Lib.hid hN
  have HG := Lib.hid hG
  have HF := Lib.hid hF
  rw [hR, hN, hm, hn]
  rw [hn] at hL
  clear hR hN hm hn hG hD hI hl hlb hF
  go_enter Try.func31, Try.ntmps31
  go_wp2
  go_loopw [0, 14] (fun vb vi wr => ∃ (k : Nat) (B : List Bd) (c' : Option Addr) (kc' : Nat), k ≤ n ∧ vi = .int .i64 k ∧ vb = .slice c' N kc' ∧ BndL wr c' B ∧ B.length = N ∧ (∀ x ∈ B, ∃ y ∈ bs, x.p = y.p) ∧ R = evA l B (L.drop k) ∧ Below w.heap.size w wr) (fun _ vi _ => n - (intOf vi).toNat)
  case atStart => exact ⟨0, bs, c, kc, Nat.zero_le _, rfl, rfl, HG.out, HN.out, fun x hx => ⟨x, hx, rfl⟩, HR.out.symm, Below.refl _ _⟩
  case round =>
    obtain ⟨k, B, c', kc', hk, rfl, rfl, hG, hBl, hBm, hE, hB⟩ := hrel
    have hbz := hB.size
    by_cases hlt : k < n
    · obtain ⟨p, hp⟩ := mem_at (l := L) (k := k) (by rw [Hn.out]; exact hlt)
      obtain ⟨b, o, rfl, hb, hc⟩ := (HF.out.mono hB) (by rw [Hn.out]; omega)
      have HRq := Lib.hid (show wr.rangeAt b (o + k * 20) [.string (p).nm, .int .i64 (p).n0, .int .i64 (p).n1, .int .i64 (p).n2, .int .i64 (p).n3, .int .i64 (p).n4, .slice (p).la (p).labs.length (p).lk, .slice (p).sa (p).sels.length (p).sk, .slice (p).ta (p).trms.length (p).tk, .slice (p).ba (p).bers.length (p).bk, .slice (p).pa (p).prts.length (p).pk, .slice (p).aa (p).aprs.length (p).ak, .bool (p).wd, .slice (p).da (p).spds.length (p).dk, .int .i64 (p).sw, .int .i64 (p).rk, .string (p).ow, .bool (p).dm, .bool (p).pn, .bool (p).lc] from fun j v hj => by
        have hj20 : j < 20 := (List.getElem?_eq_some_iff.1 hj).1
        rw [hc k p hp j hj20]
        exact hj)
      have hd : L.drop k = p :: L.drop (k + 1) := by
        obtain ⟨hi, e⟩ := List.getElem?_eq_some_iff.1 hp
        rw [List.drop_eq_getElem_cons hi, e]
      rw [hd] at hE
      obtain ⟨Z, hZ⟩ : ∃ Z, wr.heap.size = Z := ⟨_, rfl⟩
      obtain ⟨w5, hw5⟩ : ∃ V, V = wr.alloc (.cells #[.string (p).nm, .int .i64 (p).n0, .int .i64 (p).n1, .int .i64 (p).n2, .int .i64 (p).n3, .int .i64 (p).n4, .slice (p).la (p).labs.length (p).lk, .slice (p).sa (p).sels.length (p).sk, .slice (p).ta (p).trms.length (p).tk, .slice (p).ba (p).bers.length (p).bk, .slice (p).pa (p).prts.length (p).pk, .slice (p).aa (p).aprs.length (p).ak, .bool (p).wd, .slice (p).da (p).spds.length (p).dk, .int .i64 (p).sw, .int .i64 (p).rk, .string (p).ow, .bool (p).dm, .bool (p).pn, .bool (p).lc] 50) := ⟨_, rfl⟩
      have HZ5 := Lib.hid (show Box Z (prow p) w5 by rw [hw5, ← hZ]; exact Box.new wr (prow p) 50)
      have hba : Below wr.heap.size wr w5 := by rw [hw5]; exact (Below.refl _ _).alloc (Nat.le_refl _) _
      have HB5 := Lib.hid (hB.trans (hba.mono hbz))
      have z0 : w5.cell? ⟨Z, 0, none⟩ = some (.string p.nm) := HZ5.out.cell 0
      have hlz := HZ5.out.lt
      have HP := Lib.hid (prow_one p)
      have HBm := Lib.hid hBm
      have HBl := Lib.hid hBl
      obtain ⟨hy, hno⟩ := HE.out B c' kc' p.nm w5 HB5.out (hG.mono hba) hBl hBm
      by_cases he : mayE l B p.nm = 0
      · have HY := Lib.hid (hy he)
        have HEx := Lib.hid (show R = evA l (evBs p.nm B) (L.drop (k + 1)) by rw [hE]; exact if_pos he)
        clear hG hBl hBm hE hB hp hc hd hba hy hno he
        go_upto_region 4 with (first
          | ((with_reducible refine at_load (ty := 50) ?_); refine load_cells rfl 50 (.tmp 16) rfl b (o + k * 20) rfl [.string (p).nm, .int .i64 (p).n0, .int .i64 (p).n1, .int .i64 (p).n2, .int .i64 (p).n3, .int .i64 (p).n4, .slice (p).la (p).labs.length (p).lk, .slice (p).sa (p).sels.length (p).sk, .slice (p).ta (p).trms.length (p).tk, .slice (p).ba (p).bers.length (p).bk, .slice (p).pa (p).prts.length (p).pk, .slice (p).aa (p).aprs.length (p).ak, .bool (p).wd, .slice (p).da (p).spds.length (p).dk, .int .i64 (p).sw, .int .i64 (p).rk, .string (p).ow, .bool (p).dm, .bool (p).pn, .bool (p).lc] _ Try.underlying50 rfl (by kernel_rfl) HRq.out ?_)
          | ((with_reducible refine at_store (ty := 50) ?_); refine store_new rfl 50 (.tmp 9) (.tmp 17) rfl _ _ (by first | rfl | (show _ = Value.pointer (some ⟨wr.heap.size, 0, none⟩); rw [hZ]; rfl)) rfl (by kernel_rfl) rfl (List.all_eq_true.2 HP.out) rfl ?_))
        (try rw [hZ])
        rw [← hw5]
        clear hw5 hZ
        go_wp2_with (go_at_call 52; (with_reducible refine HY.out.mono ?_); rintro e w6 ⟨⟨a6, k6, rfl, hg6⟩, hb⟩; have HG6 := Lib.hid hg6; have HB6 := Lib.hid (HB5.out.trans (hb.mono HB5.out.size)); clear hg6 hb)
        go_roundw
        case rel => exact ⟨k + 1, evBs p.nm B, a6, k6, by omega, by go_num, rfl, HG6.out, (ev_len p.nm B).trans HBl.out, fun x hx => by
          obtain ⟨y, hy, e⟩ := ev_mem p.nm B x hx
          obtain ⟨z, hz, e2⟩ := HBm.out y hy
          exact ⟨z, hz, e.trans e2⟩, HEx.out, HB6.out⟩
        case measure => simp [intOf]; omega
      · have HY := Lib.hid (hno he)
        have HEx := Lib.hid (show R = (p.nm, mayE l B p.nm) by rw [hE]; exact if_neg he)
        obtain ⟨E, hEE⟩ : ∃ E, mayE l B p.nm = E := ⟨_, rfl⟩
        rw [hEE] at HY HEx he
        have q0 : (E == 0) = false := by simpa using he
        have q1 : (E != 0) = true := by simpa using he
        have q2 : (E = 0) = False := eq_false he
        clear hG hBl hBm hE hB hp hc hd hba hy hno hEE
        go_upto_region 4 with (first
          | ((with_reducible refine at_load (ty := 50) ?_); refine load_cells rfl 50 (.tmp 16) rfl b (o + k * 20) rfl [.string (p).nm, .int .i64 (p).n0, .int .i64 (p).n1, .int .i64 (p).n2, .int .i64 (p).n3, .int .i64 (p).n4, .slice (p).la (p).labs.length (p).lk, .slice (p).sa (p).sels.length (p).sk, .slice (p).ta (p).trms.length (p).tk, .slice (p).ba (p).bers.length (p).bk, .slice (p).pa (p).prts.length (p).pk, .slice (p).aa (p).aprs.length (p).ak, .bool (p).wd, .slice (p).da (p).spds.length (p).dk, .int .i64 (p).sw, .int .i64 (p).rk, .string (p).ow, .bool (p).dm, .bool (p).pn, .bool (p).lc] _ Try.underlying50 rfl (by kernel_rfl) HRq.out ?_)
          | ((with_reducible refine at_store (ty := 50) ?_); refine store_new rfl 50 (.tmp 9) (.tmp 17) rfl _ _ (by first | rfl | (show _ = Value.pointer (some ⟨wr.heap.size, 0, none⟩); rw [hZ]; rfl)) rfl (by kernel_rfl) rfl (List.all_eq_true.2 HP.out) rfl ?_))
        (try rw [hZ])
        rw [← hw5]
        clear hw5 hZ
        go_upto_region 5 with (go_at_call 52; (with_reducible refine HY.out.mono ?_); rintro e w6 ⟨rfl, hb⟩; have HB6 := Lib.hid (HB5.out.trans (hb.mono HB5.out.size)); have HX6 := Lib.hid (HZ5.out.mono hb); clear hb)
        have y0 : w6.cell? ⟨Z, 0, none⟩ = some (.string p.nm) := HX6.out.cell 0
        have hly := HX6.out.lt
        clear z0 hlz
        go_wp2
        refine bodyPost_ret (v := .tuple #[.string p.nm, .int .i64 E]) (by simp [results, Try.results31, go_sem]) rfl ⟨?_, HB6.out⟩
        rw [HEx.out]
    · obtain rfl : k = n := by omega
      have HEx := Lib.hid (show R = (emp, 0) by rw [hE, List.drop_of_length_le (by rw [Hn.out]; exact Nat.le_refl _)]; rfl)
      have HBf := Lib.hid hB
      clear hG hBl hBm hE hB
      go_wp2
      refine bodyPost_ret (v := .tuple #[.string emp, .int .i64 0]) (by simp [results, Try.results31, go_sem]; rfl) rfl ⟨?_, HBf.out⟩
      rw [HEx.out]
end Go.Proofs.Ytkmhicoimgpdlaa
