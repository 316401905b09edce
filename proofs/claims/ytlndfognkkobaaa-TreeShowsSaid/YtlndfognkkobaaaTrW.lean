/-
  The document's Scan at a text in quotes; whether a node has what its kind asks.
-/
import Derived.Test.YtlndfognkkobaaaTrV
import Derived.Test.YtlndfognkkobaaaTrR
namespace Go.Proofs.Ytlndfognkkobaaa
open Go.RowKit
set_option linter.unusedVariables false
set_option linter.unusedSimpArgs false

def ScanQ (b : Bool) (e : Ending) : Prop := if b then ∃ p : Int, e = .returned (.tuple #[.slice none 0 0, .int .i64 2, .int .i64 p]) else ∃ a k, e = .returned (.tuple #[.slice a 1 k, .int .i64 0, .int .i64 0])
set_option maxRecDepth 100000 in
set_option maxHeartbeats 4000000 in
theorem refscan_quote (x : ByteArray) (hs : (quoteB x).size ≤ 65536) (w : World) :
    Calls Try.prog 40 #[.string (quoteB x)] w fun e w' => ScanQ (oddT x) e ∧ Below w.heap.size w w' := by
  have hl : (quoteB x).size = (qL x.toList).length + 2 := by
    rw [← toList_len, quote_list, List.length_cons, List.length_append]
    rfl
  have hx0 := str_ix (quoteB x) 0 (by omega)
  have hg : (quoteB x).get! 0 = 34 := by
    have h1 := get_drop (quoteB x) 0 0
    rw [List.drop_zero, quote_list] at h1
    exact h1
  rw [hg] at hx0
  have hx0 : ∀ V : World, (Instr.index 9 (.string (quoteB x)) (.int .i64 0)).run Try.prog V = .ok (.int .u8 34) V := hx0
  have HQ := Lib.hid (show ∀ V : World, Calls Try.prog 56 #[.string (quoteB x), .int .i64 0] V fun e w' => e = .returned (.tuple #[.string (quB (quoteB x) 0).1, .int .i64 (quB (quoteB x) 0).2.1, .int .i64 (quB (quoteB x) 0).2.2.1, .int .i64 (quB (quoteB x) 0).2.2.2]) ∧ Below V.heap.size V w' from fun V => quoted_any (quoteB x) 0 (by omega) (by omega) V)
  have HW := Lib.hid (fun V => where0_any (quoteB x) V)
  have HBl := Lib.hid (fun V => blank_any 34 V)
  rw [show decide ((34 : Int) = 32 ∨ (34 : Int) = 9 ∨ (34 : Int) = 10 ∨ (34 : Int) = 13) = false from rfl] at HBl
  have hok : TextOk x → oddT x = false := (text_iff x).2
  cases ho : oddT x with
  | true =>
    obtain ⟨p, hp⟩ := quB_odd ho
    rw [hp] at HQ
    obtain ⟨q, hq⟩ : ∃ q, quoteB x = q := ⟨_, rfl⟩
    rw [hq] at hx0 HQ HW hl hs ⊢
    have k0 : 0 < q.size := by omega
    have k1 : decide ((65536 : Int) < (q.size : Int)) = false := decide_eq_false (by omega)
    unfold emp at HQ
    clear hl hg hp hok hs
    go_enter Try.func40, Try.ntmps40
    go_wp2
    refine wp_loop_rounds 1 ?_
    rw [rounds_succ]
    go_wp2_with (first
      | (go_at_call 53; (with_reducible refine (HW.out _).mono ?_); rintro e w1 ⟨rfl, hb⟩; have HB1 := Lib.hid hb; have hs1 := hb.size; clear hb)
      | (go_at_call 54; (with_reducible refine (HBl.out _).mono ?_); rintro e w2 ⟨rfl, hb⟩; have HB2 := Lib.hid ((HB1.out.alloc hs1 _).trans (hb.mono (by simp; omega))); have hs2 := HB2.out.size; clear hb)
      | (go_at_call 56; (with_reducible refine (HQ.out _).mono ?_); rintro e w3 ⟨rfl, hb⟩; have HB3 := Lib.hid (HB2.out.trans (hb.mono hs2)); clear hb))
    refine bodyPost_ret (v := .tuple #[.slice none 0 0, .int .i64 2, .int .i64 (p : Int)]) (by simp [results, Try.results40, go_sem]) rfl ⟨⟨p, rfl⟩, HB3.out⟩
  | false =>
    have ht := (text_iff x).1 ho
    rw [quB_fine ht] at HQ
    obtain ⟨q, hq⟩ : ∃ q, quoteB x = q := ⟨_, rfl⟩
    rw [hq] at hx0 HQ HW hl hs ⊢
    have k0 : 0 < q.size := by omega
    have k1 : decide ((65536 : Int) < (q.size : Int)) = false := decide_eq_false (by omega)
    clear hl hg hok hs ht
    obtain ⟨i0, hi, hz0, hz1, hz2⟩ := info_parts Try.info59
    have Hi := Lib.hid hi
    have Hz0 := Lib.hid hz0
    have Hz1 := Lib.hid hz1
    have Hz2 := Lib.hid hz2
    clear hi hz0 hz1 hz2
    go_enter Try.func40, Try.ntmps40
    go_wp2
    refine wp_loop_rounds 2 ?_
    rw [rounds_succ]
    go_wp2_with (first
      | (go_at_call 53; (with_reducible refine (HW.out _).mono ?_); rintro e w1 ⟨rfl, hb⟩; have HB1 := Lib.hid hb; have hs1 := hb.size; clear hb)
      | (go_at_call 54; (with_reducible refine (HBl.out _).mono ?_); rintro e w2 ⟨rfl, hb⟩; have HB2 := Lib.hid ((HB1.out.alloc hs1 _).trans (hb.mono (by simp; omega))); have hs2 := HB2.out.size; have HBk := Lib.hid ((Blk.new w1 59 [.int .i64 0, .string ⟨#[]⟩, .int .i64 0, .int .i64 1, .int .i64 1]).below hb); clear hb)
      | (go_at_call 56; (with_reducible refine (HQ.out _).mono ?_); rintro e w3 ⟨rfl, hb⟩; have HB3 := Lib.hid (HB2.out.trans (hb.mono hs2)); have hs3 := HB3.out.size; have hbk3 := HBk.out.below hb; have d0 := hbk3.cell 0; have d1 := hbk3.cell 1; have d2 := hbk3.cell 2; have d3 := hbk3.cell 3; have d4 := hbk3.cell 4; have fz0 := hbk3.frozen 0; have fz1 := hbk3.frozen 1; have l3 := hbk3.lt; (dsimp only [List.getElem?_cons_zero, List.getElem?_cons_succ] at d0 d1 d2 d3 d4); clear hb hbk3))
    rw [rounds_succ]
    go_wp2
    have h3 := HB3.out
    refine bodyPost_ret (v := .tuple #[.slice (some ⟨w3.heap.size + 1, 0, none⟩) 1 ((Question.appendCap 1 0 59).cut (w3.tape w3.drawn (Question.appendCap 1 0 59))), .int .i64 0, .int .i64 0]) (by simp [results, Try.results40, go_sem]) rfl ⟨⟨_, _, rfl⟩, ?_⟩
    (repeat' (first | with_reducible exact Below.refl _ _ | with_reducible assumption | with_reducible refine Below.drew ?_ | with_reducible refine below_drewN' ?_ _ | with_reducible refine Below.alloc ?_ ?_ _ | with_reducible refine Below.setCell ?_ ?_ _ | with_reducible refine below_step (by assumption) ?_ ?_ | omega | (simp; done) | (simp; omega)))
end Go.Proofs.Ytlndfognkkobaaa
