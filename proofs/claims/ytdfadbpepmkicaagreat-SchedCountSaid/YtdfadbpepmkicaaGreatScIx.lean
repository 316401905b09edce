/-
  Sched: lists of numbers and of moves that are alike.
-/
import Derived.Test.YtdfadbpepmkicaaGreatSt1x
namespace Go.Proofs.YtdfadbpepmkicaaGreat
open Go.RowKit Go.Shelf
set_option linter.unusedVariables false
set_option linter.unusedSimpArgs false
theorem Tryz.info53 : (Tryz.prog.info? 53).map (fun i => (i.zero, i.size, i.bytes)) = some (some (.agg #[.string ⟨#[]⟩, .string ⟨#[]⟩]), 2, 32) := by kernel_rfl
def mvE (x : ByteArray × ByteArray) : List Value := [.string x.1, .string x.2]
theorem mvE_len (x : ByteArray × ByteArray) : (mvE x).length = 2 := rfl
theorem mvE_one (x : ByteArray × ByteArray) : ∀ u ∈ mvE x, u.oneCell' = true := by
  intro u hu
  simp only [mvE, List.mem_cons, List.not_mem_nil, or_false] at hu
  rcases hu with rfl | rfl <;> rfl
theorem brow_pod (b : Bd) : brow b = [.string (b.p).nm, .int .i64 (b.p).n0, .int .i64 (b.p).n1, .int .i64 (b.p).n2, .int .i64 (b.p).n3, .int .i64 (b.p).n4, .slice (b.p).la (b.p).labs.length (b.p).lk, .slice (b.p).sa (b.p).sels.length (b.p).sk, .slice (b.p).ta (b.p).trms.length (b.p).tk, .slice (b.p).ba (b.p).bers.length (b.p).bk, .slice (b.p).pa (b.p).prts.length (b.p).pk, .slice (b.p).aa (b.p).aprs.length (b.p).ak, .bool (b.p).wd, .slice (b.p).da (b.p).spds.length (b.p).dk, .int .i64 (b.p).sw, .int .i64 (b.p).rk, .string (b.p).ow, .bool (b.p).dm, .bool (b.p).pn, .bool (b.p).lc] ++ [.string b.on] := rfl
structure StH (B C : Nat) (an aM : Option Addr) (N kn kM : Nat) (ms : List Mac) (bs : List Bd) (s : StT) (V3 V : World) : Prop where
  ok : StOk ms bs s.1
  row : V.ownsRow B 42 21 (.slice an N kn) N (s.1.flatMap brow)
  mov : V.ownsRow C 53 2 (.slice aM s.2.length kM) s.2.length (s.2.flatMap mvE)
  on : Only (Value.slice an N kn).ownBlock.toList V3 V
theorem StH.below {B C N kn kM : Nat} {an aM : Option Addr} {ms : List Mac} {bs : List Bd} {s : StT} {V3 V V' : World} (h : StH B C an aM N kn kM ms bs s V3 V) (hb : Below V.heap.size V V') : StH B C an aM N kn kM ms bs s V3 V' :=
  ⟨h.ok, own_kept h.row hb, own_kept h.mov hb, h.on.step (hb.mono h.on.size)⟩
theorem StH.set {B N kn kM g : Nat} {aM : Option Addr} {ms : List Mac} {bs : List Bd} {s : StT} {V3 V : World} (h : StH B V3.heap.size (some ⟨g, 0, none⟩) aM N kn kM ms bs s V3 V) (hg : g < V3.heap.size) {i : Nat} {b : Bd} (hb : s.1[i]? = some b) {t : ByteArray} (ht : t.size ≤ 300) : StH B V3.heap.size (some ⟨g, 0, none⟩) aM N kn kM ms bs (setOn s.1 i b t, s.2) V3 (V.setCell ⟨g, i * 21 + 20, none⟩ (.string t)) := by
  obtain ⟨h1, h2⟩ := World.ownsRow.stored h.row (i * 21 + 20) (.string t)
  refine ⟨h.ok.set hb ht, by rw [flat_on t s.1 i b hb] at h1; exact h1, h.mov.kept h2 ?_, h.on.setCell (.inl (by simp [Value.ownBlock])) _⟩
  cases hv : (Value.slice aM s.2.length kM).ownBlock with
  | none => exact .inl rfl
  | some k =>
    have := (h.mov.lt k hv).1
    refine .inr fun e => ?_
    injection e with e
    omega
theorem StH.app {B N kn kM k6 : Nat} {an aM a6 : Option Addr} {ms : List Mac} {bs X : List Bd} {M : List (ByteArray × ByteArray)} {x : ByteArray × ByteArray} {V3 V V' : World} (h : StH B V3.heap.size an aM N kn kM ms bs (X, M) V3 V) (hlt : ∀ g, (Value.slice an N kn).ownBlock = some g → g < V3.heap.size) (hg : World.grownBy V V' (Value.slice aM M.length kM).ownBlock)
    (hm : V'.ownsRow V3.heap.size 53 2 (.slice a6 (M.length + 1) k6) (M.length + 1) (M.flatMap mvE ++ mvE x)) : StH B V3.heap.size an a6 N kn k6 ms bs (X, M ++ [x]) V3 V' := by
  refine ⟨h.ok, h.row.kept hg ?_, ?_, h.on.grown hg fun k hk => .inr (h.mov.lt k hk).1⟩
  · cases hv : (Value.slice an N kn).ownBlock with
    | none => exact .inl rfl
    | some g =>
      refine .inr fun e => ?_
      have h1 := hlt g hv
      have h2 := (h.mov.lt g e.symm).1
      omega
  · show V'.ownsRow V3.heap.size 53 2 (.slice a6 (M ++ [x]).length k6) (M ++ [x]).length ((M ++ [x]).flatMap mvE)
    rw [List.length_append, List.flatMap_append]
    simpa using hm
def StG (ms : List Mac) (bs : List Bd) (w : World) (e : Ending) (w' : World) : Prop :=
  (∃ (an aM : Option Addr) (kn kM : Nat), e = .returned (.tuple #[.slice an bs.length kn, .slice aM (stepF ms bs).2.length kM]) ∧ w'.ownsRow w.heap.size 42 21 (.slice an bs.length kn) bs.length ((stepF ms bs).1.flatMap brow) ∧ w'.ownsRow w.heap.size 53 2 (.slice aM (stepF ms bs).2.length kM) (stepF ms bs).2.length ((stepF ms bs).2.flatMap mvE)) ∧ Below w.heap.size w w' ∧ StOk ms bs (stepF ms bs).1
set_option maxRecDepth 100000 in
set_option maxHeartbeats 8000000 in
theorem step_any (a c : Option Addr) (ka kc : Nat) (ms : List Mac) (bs : List Bd) (w : World) (hY : YA w a ms c bs) (hl : bs.length ≤ 40) :
    Calls Tryz.prog 9 #[.slice a ms.length ka, .slice c bs.length kc] w (StG ms bs w) := by
  have HCl := Lib.hid (scbnd_any c kc bs w hY.bl (by omega))
  have HOr := Lib.hid (fun V (hV : Below w.heap.size w V) => sorder_any c kc bs V (hY.bl.mono hV) hl)
  have HBe := Lib.hid (fun (X : List Bd) (an : Option Addr) (kn : Nat) (b : Bd) (V : World) (hV : Below w.heap.size w V) (hX : StOk ms bs X) (hB : BndL V an X) (hb : b ∈ X) => best_any a an ka kn ms X b.p V ((hY.mono hV).step hX hB) (((hY.mono hV).step hX hB).bi b hb).here (((hY.mono hV).step hX hB).lb b hb))
  have HYA := Lib.hid hY
  obtain ⟨O, hO⟩ : ∃ O, ordB bs bs.length = O := ⟨_, rfl⟩
  have HOk := Lib.hid (show ∀ x ∈ O, ∃ i : Nat, x = (i : Int) ∧ i < bs.length from fun x hx => by
    have h9 := ordB_ok bs bs.length
    rw [hO] at h9
    obtain ⟨n, e, h1, _⟩ := pend_lt (h9.2.mem_iff.1 hx)
    exact ⟨n, e, h1⟩)
  obtain ⟨F, hF⟩ : ∃ F, stepF ms bs = F := ⟨_, rfl⟩
  have HF := Lib.hid (show O.foldl (stepS ms) (bs, []) = F by rw [← hF, ← hO]; rfl)
  have HOl := Lib.hid (show O.length ≤ 1000 by
    have h9 := (ordB_ok bs bs.length).2.length_eq
    have h8 := pend_len bs bs.length
    rw [hO] at h9
    omega)
  have HSt0 := Lib.hid (show StOk ms bs bs from ⟨rfl, hY.lo⟩)
  rw [hO] at HOr
  unfold StG
  rw [hF]
  obtain ⟨n, hn⟩ : ∃ n, ms.length = n := ⟨_, rfl⟩
  obtain ⟨N, hN⟩ : ∃ N, bs.length = N := ⟨_, rfl⟩
  have HN := Lib.hid hN
  rw [hn] at HBe
  rw [hN] at HCl HOr HOk hl
  rw [hn, hN]
  obtain ⟨i0, hi, hz0, hz1, hz2⟩ := info_parts Tryz.info53
  have Hi := Lib.hid hi
  have Hz0 := Lib.hid hz0
  have Hz1 := Lib.hid hz1
  have Hz2 := Lib.hid hz2
  clear hi hz0 hz1 hz2
  clear hY hO hF hn hN
  go_enter Tryz.func9, Tryz.ntmps9
  go_upto_region 4 with (first
    | (go_at_call 28; (with_reducible refine HCl.out.mono ?_); rintro e w1 ⟨⟨v1, rfl, ho1⟩, hb1⟩; have HO1 := Lib.hid ho1; have HB1 := Lib.hid hb1; clear ho1 hb1)
    | (go_at_call 12; (with_reducible refine (HOr.out _ HB1.out).mono ?_); rintro e w2 ⟨⟨v2, rfl, ho2⟩, hb2⟩; have HO2 := Lib.hid ho2; have HB2 := Lib.hid hb2; obtain ⟨ao, ko, rfl⟩ := own_sl ho2; clear ho2 hb2))
  have hp1 := own_parts (l := O) (enc := icl) (K := 1) (fun _ => rfl) (by decide) HO2.out
  obtain ⟨an, kn, rfl⟩ := own_sl HO1.out
  rw [HN.out]
  obtain ⟨V3, hV3⟩ : ∃ V3, V3 = w2 := ⟨_, rfl⟩
  rw [← hV3] at HB2 ⊢
  have HS1 := Lib.hid (show ∀ g ∈ (Value.slice an N kn).ownBlock.toList, w.heap.size ≤ g ∧ g < w1.heap.size from fun g hg => by
    have h9 := World.ownsRow.lt HO1.out g (by rw [HN.out]; simpa using hg)
    exact h9)
  have hz12 : w1.heap.size ≤ V3.heap.size := HB2.out.size
  have HOc := Lib.hid (show ∀ V, Only (Value.slice an N kn).ownBlock.toList V3 V → RowsAt icl 1 V ao O from fun V hV => rows_only (B := w1.heap.size) (by rw [hV3]; exact hp1.1) (own_far HO2.out) hV (fun g hg => (HS1.out g hg).2))
  have HBw := Lib.hid (show ∀ V, Only (Value.slice an N kn).ownBlock.toList V3 V → Below w.heap.size w V from fun V hV => hV.below (HB1.out.trans (HB2.out.mono HB1.out.size)) (Nat.le_trans HB1.out.size hz12) (fun g hg => (HS1.out g hg).1))
  have HSt := Lib.hid (show StH w.heap.size V3.heap.size an none N kn 0 ms bs (bs, []) V3 V3 from ⟨HSt0.out, by
    have h9 := own_kept HO1.out HB2.out
    rw [HN.out] at h9
    exact h9, World.ownsRow_nil _ _ _ _, Only.refl _ _⟩)
  obtain ⟨L, hL⟩ : ∃ L, O.length = L := ⟨_, rfl⟩
  have HL := Lib.hid hL
  rw [hL]
  have hl2 := HOl.out
  rw [hL] at hl2
  clear hp1 hV3 HO2 HO1 HCl HOr HB1 HB2 HOl HSt0 hL
  go_loopw [7, 16] (fun vo vi wr => ∃ (k : Nat) (s : StT) (aM : Option Addr) (kM : Nat), k ≤ L ∧ vi = .int .i64 k ∧ vo = .slice aM s.2.length kM ∧ s = (O.take k).foldl (stepS ms) (bs, []) ∧ s.2.length ≤ k ∧ StH w.heap.size V3.heap.size an aM N kn kM ms bs s V3 wr) (fun _ vi _ => L - (intOf vi).toNat)
  case atStart => exact ⟨0, (bs, []), none, 0, Nat.zero_le _, rfl, rfl, rfl, Nat.le_refl _, HSt.out⟩
  case round =>
    obtain ⟨k, s, aM, kM, hk, rfl, rfl, hE, hLk, hS⟩ := hrel
    have HE := Lib.hid hE
    have HS := Lib.hid hS
    have HBr := Lib.hid (HBw.out _ hS.on)
    by_cases hlt : k < L
    · obtain ⟨x, hx⟩ := mem_at (l := O) (k := k) (by rw [HL.out]; exact hlt)
      obtain ⟨i, rfl, hi⟩ := HOk.out x (List.mem_of_getElem? hx)
      obtain ⟨b', o, rfl, hb', hc⟩ := (HOc.out _ hS.on) (by rw [HL.out]; omega)
      have c0 : wr.cell? ⟨b', o + k, none⟩ = some (.int .i64 (i : Nat)) := by
        have h9 := hc k _ hx 0 (by decide)
        rw [Nat.mul_one] at h9
        exact h9
      obtain ⟨b, hb⟩ := mem_at (l := s.1) (k := i) (by rw [hS.ok.len, HN.out]; exact hi)
      have hXl : s.1.length = N := by rw [hS.ok.len, HN.out]
      have hnx := step_next hx (ms := ms) (bs, [])
      rw [← hE, stepS_at hb] at hnx
      rcases hS.row.2 with ⟨_, h0⟩ | ⟨g, cap, cur, e, hgb, hg, _⟩
      · omega
      injection e with e1 e2 e3
      subst e1 e3
      have hgV : g < V3.heap.size := Nat.lt_of_lt_of_le (HS1.out g (by simp [Value.ownBlock])).2 hz12
      have hRow := own_range brow_len hS.row hb
      have HRg := Lib.hid (show wr.rangeAt g (i * 21) [.string (b.p).nm, .int .i64 (b.p).n0, .int .i64 (b.p).n1, .int .i64 (b.p).n2, .int .i64 (b.p).n3, .int .i64 (b.p).n4, .slice (b.p).la (b.p).labs.length (b.p).lk, .slice (b.p).sa (b.p).sels.length (b.p).sk, .slice (b.p).ta (b.p).trms.length (b.p).tk, .slice (b.p).ba (b.p).bers.length (b.p).bk, .slice (b.p).pa (b.p).prts.length (b.p).pk, .slice (b.p).aa (b.p).aprs.length (b.p).ak, .bool (b.p).wd, .slice (b.p).da (b.p).spds.length (b.p).dk, .int .i64 (b.p).sw, .int .i64 (b.p).rk, .string (b.p).ow, .bool (b.p).dm, .bool (b.p).pn, .bool (b.p).lc] from fun j v hj => hRow j v (by
        have hj20 : j < 20 := (List.getElem?_eq_some_iff.1 hj).1
        rw [brow_pod, List.getElem?_append_left hj20]
        exact hj))
      have hBL := own_parts (l := s.1) (a := some ⟨g, 0, none⟩) (k := kn) brow_len (by decide) (by rw [hXl]; exact hS.row)
      have HB1 := Lib.hid (show Calls Tryz.prog 18 #[.slice a n ka, .slice (some ⟨g, 0, none⟩) N kn, .agg #[.string (b.p).nm, .int .i64 (b.p).n0, .int .i64 (b.p).n1, .int .i64 (b.p).n2, .int .i64 (b.p).n3, .int .i64 (b.p).n4, .slice (b.p).la (b.p).labs.length (b.p).lk, .slice (b.p).sa (b.p).sels.length (b.p).sk, .slice (b.p).ta (b.p).trms.length (b.p).tk, .slice (b.p).ba (b.p).bers.length (b.p).bk, .slice (b.p).pa (b.p).prts.length (b.p).pk, .slice (b.p).aa (b.p).aprs.length (b.p).ak, .bool (b.p).wd, .slice (b.p).da (b.p).spds.length (b.p).dk, .int .i64 (b.p).sw, .int .i64 (b.p).rk, .string (b.p).ow, .bool (b.p).dm, .bool (b.p).pn, .bool (b.p).lc]] wr fun e w' => e = .returned (.string (bestF ms s.1 b.p)) ∧ Below wr.heap.size wr w' by
        have h9 := HBe.out s.1 (some ⟨g, 0, none⟩) kn b wr HBr.out hS.ok hBL.1 (List.mem_of_getElem? hb)
        rw [hXl] at h9
        exact h9)
      have hin : bestF ms s.1 b.p ≠ emp → (bestF ms s.1 b.p).size ≤ 300 := fun h => by
        obtain ⟨m, hm, e, _⟩ := bestF_in h
        rw [← e]
        exact lightM_nm (HYA.out.lm m hm)
      obtain ⟨t, ht⟩ : ∃ t, bestF ms s.1 b.p = t := ⟨_, rfl⟩
      rw [ht] at HB1 hnx hin
      have HNx := Lib.hid hnx
      have Hb := Lib.hid hb
      clear hE hS hc hx hb hnx hRow hBL ht hg hgb
      by_cases he : t = emp
      · have q1 : t.toList.isEmpty = true := by rw [he]; simp [emp]
        have HNy := Lib.hid (show (O.take (k + 1)).foldl (stepS ms) (bs, []) = s by rw [HNx.out]; unfold bindS; rw [if_pos he])
        clear he hin
        go_wp2_with (first
          | ((with_reducible refine at_load (ty := 40) ?_); refine load_cells rfl 40 (.tmp 25) rfl g (i * 21) rfl [.string (b.p).nm, .int .i64 (b.p).n0, .int .i64 (b.p).n1, .int .i64 (b.p).n2, .int .i64 (b.p).n3, .int .i64 (b.p).n4, .slice (b.p).la (b.p).labs.length (b.p).lk, .slice (b.p).sa (b.p).sels.length (b.p).sk, .slice (b.p).ta (b.p).trms.length (b.p).tk, .slice (b.p).ba (b.p).bers.length (b.p).bk, .slice (b.p).pa (b.p).prts.length (b.p).pk, .slice (b.p).aa (b.p).aprs.length (b.p).ak, .bool (b.p).wd, .slice (b.p).da (b.p).spds.length (b.p).dk, .int .i64 (b.p).sw, .int .i64 (b.p).rk, .string (b.p).ow, .bool (b.p).dm, .bool (b.p).pn, .bool (b.p).lc] _ Tryz.underlying40 rfl (by kernel_rfl) HRg.out ?_)
          | (go_at_call 18; (with_reducible refine HB1.out.mono ?_); rintro e w4 ⟨rfl, hb4⟩; have HS4 := Lib.hid (HS.out.below hb4); clear hb4))
        go_roundw
        case rel => exact ⟨k + 1, s, aM, kM, by omega, by go_num, rfl, HNy.out.symm, by omega, HS4.out⟩
        case measure => simp [intOf]; omega
      · have q1 := ne_empB he
        have hts := hin he
        have HNy := Lib.hid (show (O.take (k + 1)).foldl (stepS ms) (bs, []) = (setOn s.1 i b t, s.2 ++ [(b.p.nm, t)]) by rw [HNx.out]; unfold bindS; rw [if_neg he])
        have hon : (setOn s.1 i b t)[i]? = some ⟨b.p, t⟩ := by
          unfold setOn
          rw [List.getElem?_set_self (by rw [hXl]; exact hi)]
        have Hon := Lib.hid hon
        clear he hin hon
        go_upto_region 9 with (first
          | ((with_reducible refine at_load (ty := 40) ?_); refine load_cells rfl 40 (.tmp 25) rfl g (i * 21) rfl [.string (b.p).nm, .int .i64 (b.p).n0, .int .i64 (b.p).n1, .int .i64 (b.p).n2, .int .i64 (b.p).n3, .int .i64 (b.p).n4, .slice (b.p).la (b.p).labs.length (b.p).lk, .slice (b.p).sa (b.p).sels.length (b.p).sk, .slice (b.p).ta (b.p).trms.length (b.p).tk, .slice (b.p).ba (b.p).bers.length (b.p).bk, .slice (b.p).pa (b.p).prts.length (b.p).pk, .slice (b.p).aa (b.p).aprs.length (b.p).ak, .bool (b.p).wd, .slice (b.p).da (b.p).spds.length (b.p).dk, .int .i64 (b.p).sw, .int .i64 (b.p).rk, .string (b.p).ow, .bool (b.p).dm, .bool (b.p).pn, .bool (b.p).lc] _ Tryz.underlying40 rfl (by kernel_rfl) HRg.out ?_)
          | (go_at_call 18; (with_reducible refine HB1.out.mono ?_); rintro e w4 ⟨rfl, hb4⟩; have HS4 := Lib.hid (HS.out.below hb4); have z20 : w4.cell? ⟨g, i * 21 + 20, none⟩ = some (.string b.on) := own_range brow_len HS4.out.row Hb.out 20 _ rfl; have f20 := World.ownsRow.frozenAt HS4.out.row (i * 21 + 20); have hg4 : g < w4.heap.size := Nat.lt_of_lt_of_le hgV HS4.out.on.size; clear hb4))
        obtain ⟨W5, hW5⟩ : ∃ W, W = w4.setCell ⟨g, i * 21 + 20, none⟩ (.string t) := ⟨_, rfl⟩
        have HS5 := Lib.hid (HS4.out.set hgV Hb.out hts)
        rw [← hW5] at HS5 ⊢
        have d0 : W5.cell? ⟨g, i * 21, none⟩ = some (.string b.p.nm) := own_range brow_len HS5.out.row Hon.out 0 _ rfl
        have hg5 : g < W5.heap.size := Nat.lt_of_lt_of_le hgV HS5.out.on.size
        have hz5 : V3.heap.size ≤ W5.heap.size := HS5.out.on.size
        clear hW5 z20 f20 hg4 HS4 HS
        go_wp2_with (at_builtin; refine wpList_append_src rfl (.tmp 35) (.tmp 44) 26 rfl V3.heap.size 53 i0 _ 2 32 Tryz.underlying26 Hi.out Hz0.out Hz1.out Hz2.out rfl (by decide) _ s.2.length (s.2.flatMap mvE) rfl (HS5.out.mov.alloc _) (some ⟨W5.heap.size, 0, none⟩) 1 1 (mvE (b.p.nm, t)) rfl rfl (fun q e => by injection e with e; rw [← e]; exact news_at _ _ _) (fun e => by cases e) (mvE_one (b.p.nm, t)) (by unfold maxLen; omega) (by omega) (le_alloc hz5 _) ?_; intro v6 w6 hown6 hgrow6; obtain ⟨a6, k6, rfl⟩ := own_sl hown6; have HS6 := Lib.hid (StH.app (HS5.out.below ((Below.refl _ _).alloc (Nat.le_refl _) _)) (fun g' hg' => by obtain rfl : g = g' := Option.some.inj hg'; exact hgV) hgrow6 hown6); clear hown6 hgrow6)
        go_roundw
        case rel => exact ⟨k + 1, (setOn s.1 i b t, s.2 ++ [(b.p.nm, t)]), a6, k6, by omega, by go_num, by rw [List.length_append]; rfl, HNy.out.symm, by rw [List.length_append]; show s.2.length + 1 ≤ _; omega, HS6.out⟩
        case measure => simp [intOf]; omega
    · obtain rfl : k = L := by omega
      have hsF : s = F := by rw [hE, List.take_of_length_le (by rw [HL.out]; exact Nat.le_refl _)]; exact HF.out
      subst hsF
      have hbase : w.heap.size ≤ V3.heap.size := (HBw.out V3 (Only.refl _ _)).size
      clear hE hS
      go_wp2
      go_ret2
      exact ⟨⟨an, aM, kn, kM, rfl, HS.out.row, OwnL.mono (enc := mvE) (K := 2) (l := s.2) HS.out.mov hbase⟩, HBr.out, HS.out.ok⟩
end Go.Proofs.YtdfadbpepmkicaaGreat
namespace Go.Proofs.YtdfadbpepmkicaaGreat
open Go.RowKit Go.Shelf
set_option linter.unusedVariables false
set_option linter.unusedSimpArgs false
theorem icl_at {w : World} {b o : Nat} {g : List Int} (h : ∀ i x, g[i]? = some x → ∀ r, r < 1 → w.cell? ⟨b, o + i * 1 + r, none⟩ = (icl x)[r]?) {k : Nat} {x : Int} (hx : g[k]? = some x) : w.cell? ⟨b, o + k, none⟩ = some (.int .i64 x) := by
  have := h k x hx 0 (by decide)
  rw [Nat.mul_one, Nat.add_zero] at this
  exact this
set_option maxRecDepth 100000 in
set_option maxHeartbeats 2000000 in
theorem ints_any (c d : Option Addr) (kc kd : Nat) (g h : List Int) (w : World) (hg : RowsAt icl 1 w c g) (hh : RowsAt icl 1 w d h) (hl : g.length ≤ 1000000) (hm : h.length ≤ 1000000) :
    Calls Tryz.prog 11 #[.slice c g.length kc, .slice d h.length kd] w fun e w' => e = .returned (.bool (decide (g = h))) ∧ Below w.heap.size w w' := by
  by_cases hlen : g.length = h.length
  · obtain ⟨n, hn⟩ : ∃ n, g.length = n := ⟨_, rfl⟩
    have hn2 : h.length = n := by omega
    have HN := Lib.hid hn
    have HN2 := Lib.hid hn2
    have HGg := Lib.hid hg
    have HHh := Lib.hid hh
    rw [hn] at hl ⊢
    rw [hn2]
    obtain ⟨R, hR⟩ : ∃ R, decide (g = h) = R := ⟨_, rfl⟩
    have HR := Lib.hid hR
    rw [hR]
    clear hn hn2 hg hh hm hlen hR
    go_enter Tryz.func11, Tryz.ntmps11
    go_wp2
    go_loopw [5] (fun vi wr => ∃ k : Nat, k ≤ n ∧ vi = .int .i64 k ∧ (∀ i, i < k → g[i]? = h[i]?) ∧ Below w.heap.size w wr) (fun vi _ => n - (intOf vi).toNat)
    case atStart => exact ⟨0, Nat.zero_le _, rfl, fun i hi => absurd hi (Nat.not_lt_zero _), Below.refl _ _⟩
    case round =>
      obtain ⟨k, hk, rfl, hE, hB⟩ := hrel
      have HB := Lib.hid hB
      have HE := Lib.hid hE
      clear hE hB
      by_cases hlt : k < n
      · obtain ⟨x, hx⟩ := mem_at (l := g) (k := k) (by rw [HN.out]; exact hlt)
        obtain ⟨y, hy⟩ := mem_at (l := h) (k := k) (by rw [HN2.out]; exact hlt)
        obtain ⟨b, o, rfl, hb, hc⟩ := (HGg.out.mono HB.out) (by rw [HN.out]; omega)
        obtain ⟨b2, o2, rfl, hb2, hc2⟩ := (HHh.out.mono HB.out) (by rw [HN2.out]; omega)
        have c0 := icl_at hc hx
        have d0 := icl_at hc2 hy
        have HX := Lib.hid hx
        have HY := Lib.hid hy
        clear hc hc2 hx hy
        by_cases he : x = y
        · have HNx := Lib.hid (show ∀ i, i < k + 1 → g[i]? = h[i]? from fun i hi => by
            by_cases hik : i = k
            · subst hik
              rw [HX.out, HY.out, he]
            · exact HE.out i (by omega))
          subst he
          go_wp2
          go_region
          all_goals
            go_wp2
            go_roundw
            case rel => exact ⟨k + 1, by omega, by go_num, HNx.out, HB.out.drew⟩
            case measure => simp [intOf]; omega
        · have q1 : (x == y) = false := by simpa using he
          have q2 : (x = y) = False := eq_false he
          obtain rfl : R = false := by
            rw [← HR.out]
            refine decide_eq_false fun e => he ?_
            have h9 := HX.out
            rw [e, HY.out] at h9
            exact (Option.some.inj h9).symm
          clear he
          go_wp2
          go_region
          all_goals
            go_wp2
            go_ret
            exact ⟨rfl, HB.out.drew⟩
      · obtain rfl : k = n := by omega
        obtain rfl : R = true := by
          rw [← HR.out]
          refine decide_eq_true (List.ext_getElem? fun i => ?_)
          by_cases hi : i < k
          · exact HE.out i hi
          · rw [List.getElem?_eq_none (by rw [HN.out]; omega), List.getElem?_eq_none (by rw [HN2.out]; omega)]
        go_wp2
        go_ret
        exact ⟨rfl, HB.out⟩
  · rw [decide_eq_false (fun e => hlen (by rw [e]))]
    generalize g.length = m at hl hlen ⊢
    generalize h.length = n at hm hlen ⊢
    have q1 : ((m : Int) == (n : Int)) = false := by simp; omega
    have q2 : ((m : Int) = (n : Int)) = False := by simp; omega
    clear hg hh
    go_enter Tryz.func11, Tryz.ntmps11
    go_wp2
    go_ret
    exact ⟨rfl, Below.refl _ _⟩
theorem guard_mv (op : BinOp) (x y : Operand) (xs ys : Array Value) (w : World) : (eqGuard op 53 x y (.agg xs) (.agg ys)).run Tryz.prog w = .ok () w := run_eqGuard_agg w op _ x y xs ys (by kernel_rfl)
theorem neq_mv (x1 x2 y1 y2 : ByteArray) (w : World) : (binOp .neq 53 (.agg #[.string x1, .string x2]) (.agg #[.string y1, .string y2])).run Tryz.prog w = .ok (.bool (!decide (x1 = y1 ∧ x2 = y2))) w := by
  have hus := Tryz.underlying9
  have has := Tryz.isAgg9
  have hzs := Tryz.sizeOf9
  have hS : Tryz.prog.underlying 53 = some (.struct (Tryz.prog.fieldsOf 53)) := by kernel_rfl
  have hp : Tryz.prog.stoodInHeld 53 = false := by kernel_rfl
  rw [run_neq_struct, show (10000 : Nat) = 9999 + 1 from rfl, run_equalIn_agg w 9999 53 _ _ hS hp]
  simp only [Program.fieldsOf, Tryz.underlying53]
  go_simp
  by_cases h1 : x1 = y1 <;> by_cases h2 : x2 = y2 <;> simp [h1, h2, str_inj]
theorem mv_rng {w : World} {b o : Nat} {g : List (ByteArray × ByteArray)} (h : ∀ i x, g[i]? = some x → ∀ r, r < 2 → w.cell? ⟨b, o + i * 2 + r, none⟩ = (mvE x)[r]?) {k : Nat} {x1 x2 : ByteArray} (hx : g[k]? = some (x1, x2)) : w.rangeAt b (o + k * 2) [.string x1, .string x2] := fun j v hj => by
  have hj2 : j < 2 := (List.getElem?_eq_some_iff.1 hj).1
  rw [h k _ hx j hj2]
  exact hj
abbrev MvL := RowsAt mvE 2
set_option maxRecDepth 100000 in
set_option maxHeartbeats 2000000 in
theorem moves_any (c d : Option Addr) (kc kd : Nat) (g h : List (ByteArray × ByteArray)) (w : World) (hg : MvL w c g) (hh : MvL w d h) (hl : g.length ≤ 1000000) (hm : h.length ≤ 1000000) :
    Calls Tryz.prog 15 #[.slice c g.length kc, .slice d h.length kd] w fun e w' => e = .returned (.bool (decide (g = h))) ∧ Below w.heap.size w w' := by
  by_cases hlen : g.length = h.length
  · obtain ⟨n, hn⟩ : ∃ n, g.length = n := ⟨_, rfl⟩
    have hn2 : h.length = n := by omega
    have HN := Lib.hid hn
    have HN2 := Lib.hid hn2
    have HGg := Lib.hid hg
    have HHh := Lib.hid hh
    rw [hn] at hl ⊢
    rw [hn2]
    obtain ⟨R, hR⟩ : ∃ R, decide (g = h) = R := ⟨_, rfl⟩
    have HR := Lib.hid hR
    rw [hR]
    clear hn hn2 hg hh hm hlen hR
    go_enter Tryz.func15, Tryz.ntmps15
    go_wp2
    go_loopw [5] (fun vi wr => ∃ k : Nat, k ≤ n ∧ vi = .int .i64 k ∧ (∀ i, i < k → g[i]? = h[i]?) ∧ Below w.heap.size w wr) (fun vi _ => n - (intOf vi).toNat)
    case atStart => exact ⟨0, Nat.zero_le _, rfl, fun i hi => absurd hi (Nat.not_lt_zero _), Below.refl _ _⟩
    case round =>
      obtain ⟨k, hk, rfl, hE, hB⟩ := hrel
      have HB := Lib.hid hB
      have HE := Lib.hid hE
      clear hE hB
      by_cases hlt : k < n
      · obtain ⟨⟨x1, x2⟩, hx⟩ := mem_at (l := g) (k := k) (by rw [HN.out]; exact hlt)
        obtain ⟨⟨y1, y2⟩, hy⟩ := mem_at (l := h) (k := k) (by rw [HN2.out]; exact hlt)
        obtain ⟨b, o, rfl, hb, hc⟩ := (HGg.out.mono HB.out) (by rw [HN.out]; omega)
        obtain ⟨b2, o2, rfl, hb2, hc2⟩ := (HHh.out.mono HB.out) (by rw [HN2.out]; omega)
        have HC := Lib.hid (mv_rng hc hx)
        have HD := Lib.hid (mv_rng hc2 hy)
        have HX := Lib.hid hx
        have HY := Lib.hid hy
        have hqe := fun w => neq_mv x1 x2 y1 y2 w
        have hge := guard_mv
        obtain ⟨r, hr⟩ : ∃ r, decide (x1 = y1 ∧ x2 = y2) = r := ⟨_, rfl⟩
        rw [hr] at hqe
        have HRr := Lib.hid hr
        clear hc hc2 hx hy hr
        go_upto_region 6 with (fail)
        have hcH := held_cell
        refine region_rel (by kernel_rfl) (by kernel_rfl) ?_
        repeat
          ((with_reducible refine relStep (fun K hK => ?_))
           (have HK := Lib.hid hK)
           clear hK
           (apply relInl
            · intro r n hf
              have Hf := Lib.hid hf
              clear hf
              (first
                | (((with_reducible refine at_rel (ty := 53) ?_); first | refine rel_load rfl b (o + k * 2) rfl [.string x1, .string x2] _ Tryz.underlying53 rfl (by kernel_rfl) (rangeAt_mono HC.out hb n.below) rfl | refine rel_load rfl b2 (o2 + k * 2) rfl [.string y1, .string y2] _ Tryz.underlying53 rfl (by kernel_rfl) (rangeAt_mono HD.out hb2 n.below) rfl))
                | (unfold relAt
                   go_simp
                   (first | (refine relUpon_val ?_ (Below.refl _ _); exact rfl) | exact rfl | (refine relUpon_enter ?_; fail))))
            (simp only [Act.put, List.setIfInBounds_toArray, List.set_cons_zero, List.set_cons_succ])
            (with_reducible refine HK.out _ _ ?_)
            clear HK K))
        refine relNil ?_
        intro r9 n9 hx9
        clear hcH
        (try simp only [List.nil_append, List.cons_append, List.mem_cons, List.not_mem_nil, or_false, forall_eq_or_imp, forall_eq, false_implies, implies_true] at hx9)
        obtain ⟨w9, hb9⟩ := n9
        (try dsimp only)
        obtain ⟨hc9, hf9⟩ := bcell hb9
        have hz9 := hb9.size
        (try simp at hz9)
        have HB9 := Lib.hid (HB.out.trans (hb9.mono HB.out.size))
        clear hb9 hc9 hf9 hz9
        cases r with
        | true =>
          obtain ⟨rfl, rfl⟩ := of_decide_eq_true HRr.out
          have HNx := Lib.hid (show ∀ i, i < k + 1 → g[i]? = h[i]? from fun i hi => by
            by_cases hik : i = k
            · subst hik
              rw [HX.out, HY.out]
            · exact HE.out i (by omega))
          go_wp2
          go_roundw
          case rel => exact ⟨k + 1, by omega, by go_num, HNx.out, HB9.out⟩
          case measure => simp [intOf]; omega
        | false =>
          obtain rfl : R = false := by
            rw [← HR.out]
            refine decide_eq_false fun e => of_decide_eq_false HRr.out ?_
            have h9 := HX.out
            rw [e, HY.out] at h9
            have h8 := Option.some.inj h9
            injection h8 with e1 e2
            exact ⟨e1.symm, e2.symm⟩
          go_wp2
          go_ret
          exact ⟨rfl, HB9.out⟩
      · obtain rfl : k = n := by omega
        obtain rfl : R = true := by
          rw [← HR.out]
          refine decide_eq_true (List.ext_getElem? fun i => ?_)
          by_cases hi : i < k
          · exact HE.out i hi
          · rw [List.getElem?_eq_none (by rw [HN.out]; omega), List.getElem?_eq_none (by rw [HN2.out]; omega)]
        go_wp2
        go_ret
        exact ⟨rfl, HB.out⟩
  · rw [decide_eq_false (fun e => hlen (by rw [e]))]
    generalize g.length = m at hl hlen ⊢
    generalize h.length = n at hm hlen ⊢
    have q1 : ((m : Int) == (n : Int)) = false := by simp; omega
    have q2 : ((m : Int) = (n : Int)) = False := by simp; omega
    clear hg hh
    go_enter Tryz.func15, Tryz.ntmps15
    go_wp2
    go_ret
    exact ⟨rfl, Below.refl _ _⟩
end Go.Proofs.YtdfadbpepmkicaaGreat
