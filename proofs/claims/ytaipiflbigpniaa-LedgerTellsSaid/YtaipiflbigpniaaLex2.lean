/-
  The contract of lex.Word.
-/
import Derived.Test.YtaipiflbigpniaaLex1
namespace Go.Proofs.Ytaipiflbigpniaa
open Go.RowKit
set_option linter.unusedVariables false
set_option linter.unusedSimpArgs false

set_option maxRecDepth 100000 in
set_option maxHeartbeats 1000000 in
theorem word_any (s : ByteArray) (w : World) :
    Calls Try.prog 41 #[.string s] w fun e w' => e = .returned (.bool (wordB s)) ∧ Below w.heap.size w w' := by
  go_enter Try.func41, Try.ntmps41
  go_wp2
  go_loopw [3] (fun v wr => ∃ pos fuel n : Nat, v = .int .i64 n ∧ n ≤ 64 ∧ WordSt s pos fuel n ∧ wr.heap[w.heap.size]? = some (.stringIter s pos) ∧ Below w.heap.size w wr) (fun _ wr => s.size - wr.iterPos w.heap.size)
  case atStart => exact ⟨0, s.size, 0, rfl, by omega, WordSt.start s, World.iter_heap w s 0, (show Below w.heap.size w (w.alloc (.stringIter s 0)) by (repeat' (first | with_reducible exact Below.refl _ _ | with_reducible assumption | with_reducible refine Below.drew ?_ | with_reducible refine below_drewN' ?_ _ | with_reducible refine Below.alloc ?_ ?_ _ | with_reducible refine Below.setCell ?_ ?_ _ | with_reducible refine below_step (by assumption) ?_ ?_ | omega | (simp; done) | (simp; omega))))⟩
  case round =>
    obtain ⟨pos, fuel, n, rfl, hn, hst, hit, hB⟩ := hrel
    have hsz : w.heap.size < wr.heap.size := (Array.getElem?_eq_some_iff.1 hit).1
    by_cases hp : pos < s.size
    · have hnx : ∀ ty, (Instr.next (.pointer (some ⟨w.heap.size, 0, none⟩)) true ty).run Try.prog wr = _ := fun ty => Lib.run_next_any_at wr w.heap.size s pos ty hit hp
      have hwd := Lib.decode_width_pos s pos hp
      have hd1 := decode_le s pos
      have hit2 := Lib.iterAt_heap wr w.heap.size s pos (pos + (Utf8.decode s pos).2) hit
      have hB2 := Lib.below_iterAt hB (k := w.heap.size) (by omega) s (pos + (Utf8.decode s pos).2)
      have hsz2 : (wr.iterAt w.heap.size s (pos + (Utf8.decode s pos).2)).heap.size = wr.heap.size := Lib.iterAt_size _ _ _ _
      obtain ⟨f, rfl⟩ := hst.fuel hp
      have hfd := decode_fffd s pos
      have Hst := Lib.hid hst
      clear hst
      by_cases h64 : n = 64
      · subst h64
        have hr := Hst.out.long hp
        go_wp2
        go_ret
        exact ⟨by rw [hr]; try rfl, hB2⟩
      · cases h1 : inW (Utf8.decode s pos).1
        · have hr := Hst.out.odd hp (fun x => by rw [h1] at x; cases x.1)
          have H1 := Lib.hid h1
          clear h1
          go_wp2_with (go_at_call 50; (with_reducible refine (inwords_any _ _).mono ?_); rintro e w5 ⟨rfl, hb5⟩; rw [H1.out]; obtain ⟨hc5, hf5⟩ := bcell hb5; have hz5 := hb5.size; (try simp at hz5))
          go_ret
          exact ⟨by first | (rw [hr]; done) | (rw [hr]; rfl), by (repeat' (first | with_reducible exact Below.refl _ _ | with_reducible assumption | with_reducible refine Below.drew ?_ | with_reducible refine below_drewN' ?_ _ | with_reducible refine Below.alloc ?_ ?_ _ | with_reducible refine Below.setCell ?_ ?_ _ | with_reducible refine below_step (by assumption) ?_ ?_ | omega | (simp; done) | (simp; omega)))⟩
        · cases h2 : badAt s pos
          · have hs2 := Hst.out.step hp h1 h2
            have H1 := Lib.hid h1
            have H2 := Lib.hid (hfd.trans (congrArg (fun b => !b) h2))
            have Hs2 := Lib.hid hs2
            clear h1 h2 hs2 hfd
            go_wp2_with (first | (go_at_call 50; (with_reducible refine (inwords_any _ _).mono ?_); rintro e w5 ⟨rfl, hb5⟩; rw [H1.out]; obtain ⟨hc5, hf5⟩ := bcell hb5; have hz5 := hb5.size; (try simp at hz5)) | (go_at_call 51; (with_reducible refine (valid_any _ _ _).mono ?_); rintro e w6 ⟨rfl, hb6⟩; rw [H2.out]; obtain ⟨hc6, hf6⟩ := bcell hb6; have hz6 := hb6.size; (try simp at hz6)))
            have hit6 : w6.heap[w.heap.size]? = some (.stringIter s (pos + (Utf8.decode s pos).2)) := by rw [hb6.block _ (by omega), hb5.block _ (by omega)]; exact hit2
            go_roundw
            case rel => exact ⟨pos + (Utf8.decode s pos).2, f, n + 1, by go_num, by omega, Hs2.out, hit6, by (repeat' (first | with_reducible exact Below.refl _ _ | with_reducible assumption | with_reducible refine Below.drew ?_ | with_reducible refine below_drewN' ?_ _ | with_reducible refine Below.alloc ?_ ?_ _ | with_reducible refine Below.setCell ?_ ?_ _ | with_reducible refine below_step (by assumption) ?_ ?_ | omega | (simp; done) | (simp; omega)))⟩
            case measure =>
              simp only [World.iterPos, hit6, hit]
              omega
          · have hr := Hst.out.odd hp (fun x => by rw [h2] at x; cases x.2)
            have H1 := Lib.hid h1
            have H2 := Lib.hid (hfd.trans (congrArg (fun b => !b) h2))
            clear h1 h2 hfd
            go_wp2_with (first | (go_at_call 50; (with_reducible refine (inwords_any _ _).mono ?_); rintro e w5 ⟨rfl, hb5⟩; rw [H1.out]; obtain ⟨hc5, hf5⟩ := bcell hb5; have hz5 := hb5.size; (try simp at hz5)) | (go_at_call 51; (with_reducible refine (valid_any _ _ _).mono ?_); rintro e w6 ⟨rfl, hb6⟩; rw [H2.out]; obtain ⟨hc6, hf6⟩ := bcell hb6; have hz6 := hb6.size; (try simp at hz6)))
            go_ret
            exact ⟨by first | (rw [hr]; done) | (rw [hr]; rfl), by (repeat' (first | with_reducible exact Below.refl _ _ | with_reducible assumption | with_reducible refine Below.drew ?_ | with_reducible refine below_drewN' ?_ _ | with_reducible refine Below.alloc ?_ ?_ _ | with_reducible refine Below.setCell ?_ ?_ _ | with_reducible refine below_step (by assumption) ?_ ?_ | omega | (simp; done) | (simp; omega)))⟩
    · have hnx : ∀ ty, (Instr.next (.pointer (some ⟨w.heap.size, 0, none⟩)) true ty).run Try.prog wr = _ := fun ty => Lib.run_next_end_at wr w.heap.size s pos ty hit hp
      have hr := hst.done hp hn
      go_wp2
      go_ret
      exact ⟨by rw [hr]; simp, hB⟩
end Go.Proofs.Ytaipiflbigpniaa
