/-
  Suit: without.
-/
import Derived.Test.YthbpnfpalcgfeaaYd5
namespace Go.Proofs.Ythbpnfpalcgfeaa
open Go.RowKit
set_option linter.unusedVariables false
set_option linter.unusedSimpArgs false

theorem Try.info56 : (Try.prog.info? 56).map (fun i => (i.zero, i.size, i.bytes)) = some (some (.agg #[.string ⟨#[]⟩, .int .i64 0, .int .i64 0, .int .i64 0, .int .i64 0, .int .i64 0, .slice none 0 0, .slice none 0 0, .slice none 0 0, .slice none 0 0, .slice none 0 0, .slice none 0 0, .bool false, .slice none 0 0, .int .i64 0, .int .i64 0, .string ⟨#[]⟩, .bool false, .bool false, .bool false, .string ⟨#[]⟩]), 21, 288) := by kernel_rfl
/-- The pods on a machine but one. -/
def othB (mm nm : ByteArray) (b : Bd) : Bool := decide (b.on = mm) && !decide (b.p.nm = nm)
def othL (bs : List Bd) (mm nm : ByteArray) : List Bd := bs.filter (othB mm nm)
theorem othL_next {bs : List Bd} {k : Nat} {b : Bd} (h : bs[k]? = some b) (mm nm : ByteArray) : othL (bs.take (k + 1)) mm nm = othL (bs.take k) mm nm ++ (if othB mm nm b = true then [b] else []) := by
  unfold othL
  rw [List.take_add_one, h, List.filter_append]
  congr 1
  show List.filter (othB mm nm) [b] = _
  rw [List.filter_cons]
  split <;> rfl
theorem othL_len (bs : List Bd) (mm nm : ByteArray) : (othL bs mm nm).length ≤ bs.length := List.length_filter_le _ _
def GivesB (w : World) (L : List Bd) (e : Ending) (w' : World) : Prop := (∃ v, e = .returned v ∧ w'.ownsRow w.heap.size 56 21 v L.length (L.flatMap brow)) ∧ Below w.heap.size w w'
theorem brow_one (b : Bd) : ∀ u ∈ brow b, u.oneCell' = true := by
  intro u hu
  unfold brow at hu
  rw [List.mem_append] at hu
  rcases hu with hu | hu
  · exact prow_one b.p u hu
  · rw [List.mem_singleton] at hu
    subst hu
    rfl
theorem list21 {l : List Value} (h : l.length = 21) : ∃ x0 x1 x2 x3 x4 x5 x6 x7 x8 x9 y0 y1 y2 y3 y4 y5 y6 y7 y8 y9 z0, l = [x0, x1, x2, x3, x4, x5, x6, x7, x8, x9, y0, y1, y2, y3, y4, y5, y6, y7, y8, y9, z0] := by
  match l, h with
  | [x0, x1, x2, x3, x4, x5, x6, x7, x8, x9, y0, y1, y2, y3, y4, y5, y6, y7, y8, y9, z0], _ => exact ⟨x0, x1, x2, x3, x4, x5, x6, x7, x8, x9, y0, y1, y2, y3, y4, y5, y6, y7, y8, y9, z0, rfl⟩
set_option maxRecDepth 100000 in
set_option maxHeartbeats 4000000 in
theorem swithout_any (a : Option Addr) (ka : Nat) (bs : List Bd) (mm nn : ByteArray) (w : World) (hF : BndL w a bs) (hl : bs.length ≤ 1000000) :
    Calls Try.prog 71 #[.slice a bs.length ka, .string mm, .string nn] w (GivesB w (othL bs mm nn)) := by
  obtain ⟨n, hn⟩ : ∃ n, bs.length = n := ⟨_, rfl⟩
  have HN := Lib.hid hn
  have HF := Lib.hid hF
  rw [hn] at hl ⊢
  clear hn hF
  obtain ⟨i0, hi, hz0, hz1, hz2⟩ := info_parts Try.info56
  have Hi := Lib.hid hi
  have Hz0 := Lib.hid hz0
  have Hz1 := Lib.hid hz1
  have Hz2 := Lib.hid hz2
  clear hi hz0 hz1 hz2
  go_enter Try.func71, Try.ntmps71
  go_wp2
  go_loopw [7, 11] (fun vo vi wr => ∃ (k : Nat) (Q : List Bd), k ≤ n ∧ vi = .int .i64 k ∧ Q = othL (bs.take k) mm nn ∧ Q.length ≤ k ∧ wr.ownsRow w.heap.size 56 21 vo Q.length (Q.flatMap brow) ∧ Below w.heap.size w wr) (fun _ vi _ => n - (intOf vi).toNat)
  case atStart => exact ⟨0, [], Nat.zero_le _, rfl, rfl, Nat.le_refl _, World.ownsRow_nil _ _ _ _, by (repeat' (first | with_reducible exact Below.refl _ _ | with_reducible assumption | with_reducible refine Below.drew ?_ | with_reducible refine below_drewN' ?_ _ | with_reducible refine Below.alloc ?_ ?_ _ | with_reducible refine Below.setCell ?_ ?_ _ | with_reducible refine below_step (by assumption) ?_ ?_ | omega | (simp; done) | (simp; omega)))⟩
  case round =>
    obtain ⟨k, Q, hk, rfl, hE, hLk, hO, hB⟩ := hrel
    have HE := Lib.hid hE
    have HB := Lib.hid hB
    have HO := Lib.hid hO
    have hbz := hB.size
    obtain ⟨ao, ko, rfl⟩ := own_sl hO
    by_cases hlt : k < n
    · obtain ⟨m, hm⟩ := mem_at (l := bs) (k := k) (by rw [HN.out]; exact hlt)
      obtain ⟨b, o, rfl, hb, hc⟩ := (HF.out.mono hB) (by rw [HN.out]; omega)
      have HRg := Lib.hid (show wr.rangeAt b (o + k * 21) (brow m) from fun j v hj => by rw [hc k m hm j (by have := (List.getElem?_eq_some_iff.1 hj).1; exact this)]; exact hj)
      have c20 : wr.cell? ⟨b, o + k * 21 + 20, none⟩ = some (.string m.on) := hc k m hm 20 (by decide)
      have c0 : wr.cell? ⟨b, o + k * 21, none⟩ = some (.string m.p.nm) := hc k m hm 0 (by decide)
      have hnx := othL_next hm mm nn
      obtain ⟨p, on⟩ := m
      obtain ⟨nm, hnm⟩ : ∃ nm, p.nm = nm := ⟨_, rfl⟩
      dsimp only at c20 c0
      rw [hnm] at c0
      have hob : othB mm nn ⟨p, on⟩ = (decide (on = mm) && !decide (nm = nn)) := by rw [← hnm]; rfl
      rw [hob] at hnx
      clear hnm hob
      by_cases ho : on = mm
      · have q := str_yes ho
        by_cases hx : nm = nn
        · have q2 := str_yes hx
          rw [decide_eq_true ho, decide_eq_true hx, if_neg (by decide), List.append_nil, ← hE] at hnx
          have HNx := Lib.hid hnx.symm
          clear hE hO hB hc hm hnx ho hx
          go_wp2
          go_roundw
          case rel => exact ⟨k + 1, Q, by omega, by go_num, HNx.out, by omega, HO.out, HB.out⟩
          case measure => simp [intOf]; omega
        · have q2 := str_no hx
          rw [decide_eq_true ho, decide_eq_false hx, if_pos (by decide), ← hE] at hnx
          have HNx := Lib.hid hnx
          obtain ⟨pb, hpb⟩ : ∃ pb, (⟨p, on⟩ : Bd) = pb := ⟨_, rfl⟩
          rw [hpb] at HNx HRg
          obtain ⟨rw', hrw⟩ : ∃ r, brow pb = r := ⟨_, rfl⟩
          have HP := Lib.hid hrw
          have hlen : rw'.length = 21 := by rw [← hrw]; rfl
          rw [hrw] at HRg
          clear hE hO hB hc hm hnx ho hx hpb hrw
          obtain ⟨x0, x1, x2, x3, x4, x5, x6, x7, x8, x9, y0, y1, y2, y3, y4, y5, y6, y7, y8, y9, z0, rfl⟩ := list21 hlen
          clear hlen
          go_wp2_with (first
            | ((with_reducible refine at_load (ty := 56) ?_); refine load_cells rfl 56 (.tmp 34) rfl b (o + k * 21) rfl [x0, x1, x2, x3, x4, x5, x6, x7, x8, x9, y0, y1, y2, y3, y4, y5, y6, y7, y8, y9, z0] _ Try.underlying56 rfl (by kernel_rfl) HRg.out ?_)
            | (at_builtin; refine wpList_append_src rfl (.tmp 31) (.tmp 36) 23 rfl w.heap.size 56 i0 _ 21 288 Try.underlying23 Hi.out Hz0.out Hz1.out Hz2.out rfl (by decide) _ Q.length (Q.flatMap brow) rfl (HO.out.alloc _) (some ⟨wr.heap.size, 0, none⟩) 1 1 [x0, x1, x2, x3, x4, x5, x6, x7, x8, x9, y0, y1, y2, y3, y4, y5, y6, y7, y8, y9, z0] rfl rfl (fun q e => by injection e with e; rw [← e]; exact news_at _ _ _) (fun e => by cases e) (HP.out ▸ brow_one pb) (by unfold maxLen; omega) (by omega) (by simp; omega) ?_; intro v6 w6 hown6 hgrow6; obtain ⟨a6, k6, rfl⟩ := own_sl hown6; have HB6 := Lib.hid (own_below (HO.out.alloc _) (HB.out.alloc hbz _) (by simp; omega) hgrow6); have HO6 := Lib.hid hown6; clear hown6 hgrow6))
          go_roundw
          case rel =>
            refine ⟨k + 1, Q ++ [pb], by omega, by go_num, HNx.out.symm, by rw [List.length_append]; show Q.length + 1 ≤ _; omega, ?_, HB6.out⟩
            rw [List.length_append, List.flatMap_append]
            have h9 := HO6.out
            rw [← HP.out] at h9
            simpa using h9
          case measure => simp [intOf]; omega
      · have q := str_no ho
        rw [decide_eq_false ho, if_neg (by simp), List.append_nil, ← hE] at hnx
        have HNx := Lib.hid hnx.symm
        clear hE hO hB hc hm hnx ho
        go_wp2
        go_roundw
        case rel => exact ⟨k + 1, Q, by omega, by go_num, HNx.out, by omega, HO.out, HB.out⟩
        case measure => simp [intOf]; omega
    · obtain rfl : k = n := by omega
      have hL : Q = othL bs mm nn := by rw [hE, List.take_of_length_le (by rw [HN.out]; exact Nat.le_refl _)]
      have HL := Lib.hid hL
      clear hE hO hB hL
      go_wp2
      refine bodyPost_ret (v := .slice ao Q.length ko) (by simp [results, Try.results71, go_sem]) rfl ⟨⟨_, rfl, by rw [← HL.out]; exact HO.out⟩, HB.out⟩
end Go.Proofs.Ythbpnfpalcgfeaa
