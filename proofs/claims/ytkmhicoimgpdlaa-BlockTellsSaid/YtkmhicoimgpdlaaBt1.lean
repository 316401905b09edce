/-
  Block, the document's way: Use, Movable.
-/
import Derived.Test.YtkmhicoimgpdlaaBf4
import Derived.Test.YtkmhicoimgpdlaaYfB
namespace Go.Proofs.Ytkmhicoimgpdlaa
open Go.RowKit
set_option linter.unusedVariables false
set_option linter.unusedSimpArgs false

set_option maxRecDepth 100000 in
set_option maxHeartbeats 4000000 in
theorem ruse_any (m : Mac) (c : Option Addr) (kc : Nat) (bs : List Bd) (w : World) (hG : BndL w c bs) (hl : bs.length ≤ 1000000) (hrt : ∀ b ∈ bs, rtP b.p = true) :
    Calls Try.prog 18 #[.agg (mrow m).toArray, .slice c bs.length kc] w fun e w' => e = .returned (.int .i64 (useB m bs)) ∧ Below w.heap.size w w' := by
  have hUs := fun V (hV : Below w.heap.size w V) => refused_any c kc bs m.nm V (hG.mono hV) hl hrt
  obtain ⟨U, hU⟩ : ∃ U, usedY bs m.nm = U := ⟨_, rfl⟩
  have hR : useB m bs = if U.1 = 0 then Rs.shareF U.2.r0 U.2.r1 U.2.r2 U.2.r3 U.2.r4 m.r0 m.r1 m.r2 m.r3 m.r4 else 1000000 := by unfold useB; rw [hU]
  rw [hU] at hUs
  rw [hR]
  obtain ⟨e, u0, u1, u2, u3, u4⟩ := U
  dsimp only [R5.v] at hUs ⊢
  have hSh := fun V => Rs.refshare_any u0 u1 u2 u3 u4 m.r0 m.r1 m.r2 m.r3 m.r4 V
  obtain ⟨s, hs⟩ : ∃ s, Rs.shareF u0 u1 u2 u3 u4 m.r0 m.r1 m.r2 m.r3 m.r4 = s := ⟨_, rfl⟩
  rw [hs] at hSh ⊢
  obtain ⟨W, hW⟩ : ∃ W, W = (w.alloc (.cells #[.string (m).nm, .string (m).gp, .int .i64 (m).r0, .int .i64 (m).r1, .int .i64 (m).r2, .int .i64 (m).r3, .int .i64 (m).r4, .slice (m).la (m).labs.length (m).lk, .slice (m).ta (m).tnts.length (m).tk, .bool (m).rd] 35)) := ⟨_, rfl⟩
  have HX := Lib.hid (show Box w.heap.size (mrow m) W by rw [hW]; exact (Box.new w (mrow m) 35))
  have HB := Lib.hid (show Below w.heap.size w W by rw [hW]; exact (Below.refl _ _).alloc (Nat.le_refl _) _)
  have c0 : W.cell? ⟨w.heap.size, 0, none⟩ = some (.string m.nm) := HX.out.cell 0
  have hlx := HX.out.lt
  have HRh := Lib.hid (show ∀ V, Box w.heap.size (mrow m) V → V.rangeAt w.heap.size 2 [.int .i64 m.r0, .int .i64 m.r1, .int .i64 m.r2, .int .i64 m.r3, .int .i64 m.r4] from fun V h j v hj => by
    have hj5 : j < 5 := (List.getElem?_eq_some_iff.1 hj).1
    rw [h.cell]
    match j, hj5, hj with
    | 0, _, hj => exact hj
    | 1, _, hj => exact hj
    | 2, _, hj => exact hj
    | 3, _, hj => exact hj
    | 4, _, hj => exact hj)
  generalize bs.length = N at hUs hl ⊢
  have HUs := Lib.hid hUs
  have HSh := Lib.hid hSh
  show Calls Try.prog 18 #[.agg #[.string (m).nm, .string (m).gp, .int .i64 (m).r0, .int .i64 (m).r1, .int .i64 (m).r2, .int .i64 (m).r3, .int .i64 (m).r4, .slice (m).la (m).labs.length (m).lk, .slice (m).ta (m).tnts.length (m).tk, .bool (m).rd], .slice c N kc] w _
  clear hUs hSh hs hR hU hG hl hrt
  by_cases he : e = 0
  · subst he
    rw [if_pos rfl]
    go_enter Try.func18, Try.ntmps18
    go_upto_region 1 with (fail)
    rw [← hW]
    clear hW
    go_upto_region 2 with (go_at_call 39; (with_reducible refine (HUs.out _ HB.out).mono ?_); rintro e w3 ⟨rfl, hb3⟩; have HB3 := Lib.hid (HB.out.trans (hb3.mono HB.out.size)); have HX3 := Lib.hid (HX.out.mono hb3); clear hb3 c0 hlx)
    obtain ⟨V, hV⟩ : ∃ V, V = w3.alloc (.cells #[.int .i64 u0, .int .i64 u1, .int .i64 u2, .int .i64 u3, .int .i64 u4] 31) := ⟨_, rfl⟩
    obtain ⟨Z, hZ⟩ : ∃ Z, w3.heap.size = Z := ⟨_, rfl⟩
    have HBV := Lib.hid (show Below w.heap.size w V by rw [hV]; exact HB3.out.alloc HB3.out.size _)
    have HXV := Lib.hid (show Box w.heap.size (mrow m) V by rw [hV]; exact HX3.out.mono ((Below.refl _ _).alloc (Nat.le_refl _) _))
    have HUr := Lib.hid (show V.rangeAt Z 0 [.int .i64 u0, .int .i64 u1, .int .i64 u2, .int .i64 u3, .int .i64 u4] by rw [hV, ← hZ]; exact (Box.new w3 [.int .i64 u0, .int .i64 u1, .int .i64 u2, .int .i64 u3, .int .i64 u4] 31).range)
    rw [← hV, hZ]
    clear hV hZ HB3 HX3 HX HB HUs
    go_wp2_with (first
      | ((with_reducible refine at_load (ty := 31) ?_); refine load_cells rfl 31 (.tmp 5) rfl Z 0 rfl [.int .i64 u0, .int .i64 u1, .int .i64 u2, .int .i64 u3, .int .i64 u4] _ Try.underlying31 rfl (by kernel_rfl) HUr.out ?_)
      | ((with_reducible refine at_load (ty := 31) ?_); refine load_cells rfl 31 (.tmp 17) rfl w.heap.size 2 rfl [.int .i64 m.r0, .int .i64 m.r1, .int .i64 m.r2, .int .i64 m.r3, .int .i64 m.r4] _ Try.underlying31 rfl (by kernel_rfl) (HRh.out _ HXV.out) ?_)
      | (go_at_call 40; (with_reducible refine (HSh.out _).mono ?_); rintro e w4 ⟨rfl, hb4⟩; have HB4 := Lib.hid (HBV.out.trans (hb4.mono HBV.out.size)); clear hb4))
    go_ret
    exact ⟨rfl, HB4.out⟩
  · have q0 : (e == 0) = false := by simpa using he
    have q1 : (e != 0) = true := by simpa using he
    have q2 : (e = 0) = False := eq_false he
    rw [if_neg he]
    go_enter Try.func18, Try.ntmps18
    go_upto_region 1 with (fail)
    rw [← hW]
    clear hW
    go_upto_region 2 with (go_at_call 39; (with_reducible refine (HUs.out _ HB.out).mono ?_); rintro e w3 ⟨rfl, hb3⟩; have HB3 := Lib.hid (HB.out.trans (hb3.mono HB.out.size)); have HX3 := Lib.hid (HX.out.mono hb3); clear hb3 c0 hlx)
    obtain ⟨V, hV⟩ : ∃ V, V = w3.alloc (.cells #[.int .i64 u0, .int .i64 u1, .int .i64 u2, .int .i64 u3, .int .i64 u4] 31) := ⟨_, rfl⟩
    obtain ⟨Z, hZ⟩ : ∃ Z, w3.heap.size = Z := ⟨_, rfl⟩
    have HBV := Lib.hid (show Below w.heap.size w V by rw [hV]; exact HB3.out.alloc HB3.out.size _)
    have HXV := Lib.hid (show Box w.heap.size (mrow m) V by rw [hV]; exact HX3.out.mono ((Below.refl _ _).alloc (Nat.le_refl _) _))
    have HUr := Lib.hid (show V.rangeAt Z 0 [.int .i64 u0, .int .i64 u1, .int .i64 u2, .int .i64 u3, .int .i64 u4] by rw [hV, ← hZ]; exact (Box.new w3 [.int .i64 u0, .int .i64 u1, .int .i64 u2, .int .i64 u3, .int .i64 u4] 31).range)
    rw [← hV, hZ]
    clear hV hZ HB3 HX3 HX HB HUs
    go_wp2
    go_ret
    exact ⟨rfl, HBV.out⟩
set_option maxRecDepth 100000 in
set_option maxHeartbeats 8000000 in
theorem rmovable_any (a : Option Addr) (ka : Nat) (bs : List Bd) (nm : ByteArray) (w : World) (hF : BndL w a bs) (hl : bs.length ≤ 1000000) (he : ¬ nm = emp) :
    Calls Try.prog 17 #[.slice a bs.length ka, .string nm] w (GivesP w (movL bs nm)) := by
  have hon := refon_any a ka bs nm w hF hl
  have hol := onL_len bs nm
  obtain ⟨N, hN⟩ : ∃ N, bs.length = N := ⟨_, rfl⟩
  rw [hN] at hon hl hol
  rw [hN]
  unfold movL
  obtain ⟨i0, hi, hz0, hz1, hz2⟩ := info_parts Try.info50
  have Hi := Lib.hid hi
  have Hz0 := Lib.hid hz0
  have Hz1 := Lib.hid hz1
  have Hz2 := Lib.hid hz2
  clear hi hz0 hz1 hz2
  rw [if_neg he]
  obtain ⟨L, hL⟩ : ∃ L, onL bs nm = L := ⟨_, rfl⟩
  rw [hL] at hon hol
  rw [hL]
  obtain ⟨n, hn⟩ : ∃ n, L.length = n := ⟨_, rfl⟩
  have Hn := Lib.hid hn
  rw [hn] at hol
  have HOn := Lib.hid hon
  clear hon hF hN hL hn he
  go_enter Try.func17, Try.ntmps17
  go_wp2_with (go_at_call 38; (with_reducible refine HOn.out.mono ?_); rintro e w2 ⟨⟨v, rfl, hv⟩, hb⟩; obtain ⟨al, kl, rfl, -, hrl⟩ := IsL.of_own prow_len (by decide) hv; have HL2 := Lib.hid hrl; have HB2 := Lib.hid hb; clear hb hv hrl; rw [Hn.out])
  obtain ⟨V2, hV2⟩ : ∃ V2, V2 = w2 := ⟨_, rfl⟩
  rw [← hV2] at HL2 HB2 ⊢
  clear hV2
  go_loopw [6, 7] (fun vo vi wr => ∃ (k : Nat) (Q : List Pd), k ≤ n ∧ vi = .int .i64 k ∧ Q = (L.take k).filter isMov ∧ Q.length ≤ k ∧ wr.ownsRow V2.heap.size 50 20 vo Q.length (Q.flatMap prow) ∧ Below V2.heap.size V2 wr) (fun _ vi _ => n - (intOf vi).toNat)
  case atStart => exact ⟨0, [], Nat.zero_le _, rfl, rfl, Nat.le_refl _, World.ownsRow_nil _ _ _ _, Below.refl _ _⟩
  case round =>
    obtain ⟨k, Q, hk, rfl, hE, hLk, hO, hB⟩ := hrel
    have HE := Lib.hid hE
    have HB := Lib.hid hB
    have HO := Lib.hid hO
    have hbz := hB.size
    obtain ⟨ao, ko, rfl⟩ := own_sl hO
    by_cases hlt : k < n
    · obtain ⟨p, hp⟩ := mem_at (l := L) (k := k) (by rw [Hn.out]; exact hlt)
      obtain ⟨b, o, rfl, hb, hc⟩ := (HL2.out.mono hB) (by rw [Hn.out]; omega)
      have HRq := Lib.hid (show wr.rangeAt b (o + k * 20) [.string (p).nm, .int .i64 (p).n0, .int .i64 (p).n1, .int .i64 (p).n2, .int .i64 (p).n3, .int .i64 (p).n4, .slice (p).la (p).labs.length (p).lk, .slice (p).sa (p).sels.length (p).sk, .slice (p).ta (p).trms.length (p).tk, .slice (p).ba (p).bers.length (p).bk, .slice (p).pa (p).prts.length (p).pk, .slice (p).aa (p).aprs.length (p).ak, .bool (p).wd, .slice (p).da (p).spds.length (p).dk, .int .i64 (p).sw, .int .i64 (p).rk, .string (p).ow, .bool (p).dm, .bool (p).pn, .bool (p).lc] from fun j v hj => by
        have hj20 : j < 20 := (List.getElem?_eq_some_iff.1 hj).1
        rw [hc k p hp j hj20]
        exact hj)
      have c17 : wr.cell? ⟨b, o + k * 20 + 17, none⟩ = some (.bool p.dm) := hc k p hp 17 (by decide)
      have hnx := filt_next hp isMov
      rw [← hE] at hnx
      obtain ⟨dm, hdm⟩ : ∃ d, p.dm = d := ⟨_, rfl⟩
      have hi : isMov p = !dm := by unfold isMov; rw [hdm]
      rw [hi] at hnx
      rw [hdm] at c17
      have HP := Lib.hid (prow_one p)
      clear hE hO hB hc hp hdm hi
      cases dm with
      | true =>
        have HNx := Lib.hid (show Q = (L.take (k + 1)).filter isMov by rw [hnx, if_neg (by decide), List.append_nil])
        clear hnx
        go_wp2
        go_roundw
        case rel => exact ⟨k + 1, Q, by omega, by go_num, HNx.out, by omega, HO.out, HB.out⟩
        case measure => simp [intOf]; omega
      | false =>
        have HNx := Lib.hid (show Q ++ [p] = (L.take (k + 1)).filter isMov by rw [hnx, if_pos (by decide)])
        clear hnx
        go_wp2_with (first
          | ((with_reducible refine at_load (ty := 50) ?_); refine load_cells rfl 50 (.tmp 26) rfl b (o + k * 20) rfl [.string (p).nm, .int .i64 (p).n0, .int .i64 (p).n1, .int .i64 (p).n2, .int .i64 (p).n3, .int .i64 (p).n4, .slice (p).la (p).labs.length (p).lk, .slice (p).sa (p).sels.length (p).sk, .slice (p).ta (p).trms.length (p).tk, .slice (p).ba (p).bers.length (p).bk, .slice (p).pa (p).prts.length (p).pk, .slice (p).aa (p).aprs.length (p).ak, .bool (p).wd, .slice (p).da (p).spds.length (p).dk, .int .i64 (p).sw, .int .i64 (p).rk, .string (p).ow, .bool (p).dm, .bool (p).pn, .bool (p).lc] _ Try.underlying50 rfl (by kernel_rfl) HRq.out ?_)
          | (at_builtin; refine wpList_append_src rfl (.tmp 23) (.tmp 28) 42 rfl V2.heap.size 50 i0 _ 20 272 Try.underlying42 Hi.out Hz0.out Hz1.out Hz2.out rfl (by decide) _ Q.length (Q.flatMap prow) rfl (HO.out.alloc _) (some ⟨wr.heap.size, 0, none⟩) 1 1 [.string (p).nm, .int .i64 (p).n0, .int .i64 (p).n1, .int .i64 (p).n2, .int .i64 (p).n3, .int .i64 (p).n4, .slice (p).la (p).labs.length (p).lk, .slice (p).sa (p).sels.length (p).sk, .slice (p).ta (p).trms.length (p).tk, .slice (p).ba (p).bers.length (p).bk, .slice (p).pa (p).prts.length (p).pk, .slice (p).aa (p).aprs.length (p).ak, .bool (p).wd, .slice (p).da (p).spds.length (p).dk, .int .i64 (p).sw, .int .i64 (p).rk, .string (p).ow, .bool (p).dm, .bool (p).pn, .bool (p).lc] rfl rfl (fun q e => by injection e with e; rw [← e]; exact news_at _ _ _) (fun e => by cases e) HP.out (by unfold maxLen; omega) (by omega) (by simp; omega) ?_; intro v6 w6 hown6 hgrow6; obtain ⟨a6, k6, rfl⟩ := own_sl hown6; have HB6 := Lib.hid (own_below (HO.out.alloc _) (HB.out.alloc hbz _) (by simp; omega) hgrow6); have HO6 := Lib.hid hown6; clear hown6 hgrow6))
        go_roundw
        case rel =>
          refine ⟨k + 1, Q ++ [p], by omega, by go_num, HNx.out, by rw [List.length_append]; show Q.length + 1 ≤ _; omega, ?_, HB6.out⟩
          rw [List.length_append, List.flatMap_append]
          have h9 := HO6.out
          simpa [prow] using h9
        case measure => simp [intOf]; omega
    · obtain rfl : k = n := by omega
      have HLe := Lib.hid (show Q = L.filter isMov by rw [hE, List.take_of_length_le (by rw [Hn.out]; exact Nat.le_refl _)])
      have HOf := Lib.hid (own_up hO HB2.out.size)
      have HBf := Lib.hid (HB2.out.trans (hB.mono HB2.out.size))
      clear hE hO hB
      go_wp2
      refine bodyPost_ret (v := .slice ao Q.length ko) (by simp [results, Try.results17, go_sem]) rfl ⟨⟨_, rfl, by rw [← HLe.out]; exact HOf.out⟩, HBf.out⟩
end Go.Proofs.Ytkmhicoimgpdlaa
