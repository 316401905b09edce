/-
  What is shown of a forest is read as its tokens.
-/
import Derived.Test.YtlndfognkkobaaaTrM
namespace Go.Proofs.Ytlndfognkkobaaa
open Go.RowKit
set_option linter.unusedVariables false
set_option linter.unusedSimpArgs false

/-- A text that is read as these tokens, behind none that goes on; behind a word. -/
def RA (u : List UInt8) (K : List (Int × ByteArray)) : Prop := ∀ (src : ByteArray) (pos : Nat) (s : SC), Sat src pos u → s.md = 0 → ∃ M, scanAt src pos s = (s.tk ++ M, 0, 0) ∧ M.map kt = K
def RB (u : List UInt8) (K : List (Int × ByteArray)) : Prop := ∀ (src : ByteArray) (pos : Nat) (s : SC), Sat src pos u → s.md = 1 → ∃ M, scanAt src pos s = (s.tk ++ M, 0, 0) ∧ M.map kt = (3, src.extract s.cu.po.toNat pos) :: K
theorem RA.nil : RA [] [] := fun src pos s hS hm => by
  have hl := hS.len
  rw [List.length_nil] at hl
  rw [scanAt_end (by omega)]
  refine ⟨[], ?_, rfl⟩
  unfold SC.fin
  rw [if_neg (by rw [hm]; decide), if_neg (by rw [hm]; decide), if_neg (by rw [hm]; decide), List.append_nil]
  rfl
theorem RB.nil : RB [] [] := fun src pos s hS hm => by
  have hl := hS.len
  rw [List.length_nil] at hl
  rw [scanAt_end (by omega)]
  unfold SC.fin
  rw [if_pos hm]
  refine ⟨[{ s.cu with kd := 3, tx := src.extract s.cu.po.toNat ((src.size : Nat) : Int).toNat }], rfl, ?_⟩
  show [(3, src.extract s.cu.po.toNat src.size)] = [(3, src.extract s.cu.po.toNat pos)]
  rw [hl]
  rfl
theorem begin_blank {b : UInt8} (hb : b = 32 ∨ b = 10) (s : SC) (i : Int) : s.begin i ((b.toNat : Nat) : Int) = (s.at i, 0, 0) := by
  rcases hb with rfl | rfl <;> rfl
theorem blank_rn {b : UInt8} (hb : b = 32 ∨ b = 10) : Rn [b] b.toNat := by
  rcases hb with rfl | rfl
  · exact Rn.one 32 (by decide)
  · exact Rn.one 10 (by decide)
theorem adv_md (s : SC) (r : Int) : (s.adv r).md = s.md ∧ (s.adv r).tk = s.tk := ⟨(adv_same s r).1, (adv_same s r).2.1⟩
theorem RA.blank {b : UInt8} (hb : b = 32 ∨ b = 10) {u : List UInt8} {K : List (Int × ByteArray)} (h : RA u K) : RA (b :: u) K := fun src pos s hS hm => by
  have hS' : Sat src pos ([b] ++ u) := hS
  rw [take_one hS' (blank_rn hb) ((step_zero hS' (blank_rn hb) hm).trans (begin_blank hb s _))]
  obtain ⟨M, k1, k2⟩ := h src _ ((s.at pos).adv ((b.toNat : Nat) : Int)) hS'.next (by rw [(adv_md _ _).1]; exact hm)
  rw [(adv_md _ _).2] at k1
  exact ⟨M, k1, k2⟩
theorem RB.blank {b : UInt8} (hb : b = 32 ∨ b = 10) {u : List UInt8} {K : List (Int × ByteArray)} (h : RA u K) : RB (b :: u) K := fun src pos s hS hm => by
  have hS' : Sat src pos ([b] ++ u) := hS
  have hw : inW ((b.toNat : Nat) : Int) = false := by rcases hb with rfl | rfl <;> decide
  rw [take_one hS' (blank_rn hb) ((step_word hS' (blank_rn hb) hm hw).trans (begin_blank hb _ _))]
  obtain ⟨M, k1, k2⟩ := h src _ (((s.endW src pos).at pos).adv ((b.toNat : Nat) : Int)) hS'.next (by rw [(adv_md _ _).1]; rfl)
  rw [(adv_md _ _).2] at k1
  refine ⟨{ s.cu with kd := 3, tx := src.extract s.cu.po.toNat ((pos : Nat) : Int).toNat } :: M, ?_, ?_⟩
  · rw [← snoc_more]
    exact k1
  · rw [List.map_cons, k2]
    rfl
theorem RA.opn {u : List UInt8} {K : List (Int × ByteArray)} (h : RA u K) : RA (40 :: u) ((1, chB 40) :: K) := fun src pos s hS hm => by
  have hS' : Sat src pos ([40] ++ u) := hS
  rw [take_one hS' r40 (step_zero hS' r40 hm)]
  obtain ⟨M, k1, k2⟩ := h src _ (((s.at pos).add 1 (chB 40)).adv ((40 : Nat) : Int)) hS'.next rfl
  refine ⟨{ (s.at pos).cu with kd := 1, tx := chB 40 } :: M, ?_, ?_⟩
  · rw [← snoc_more]
    exact k1
  · rw [List.map_cons, k2]
    rfl
theorem RA.cls {u : List UInt8} {K : List (Int × ByteArray)} (h : RA u K) : RA (41 :: u) ((2, chB 41) :: K) := fun src pos s hS hm => by
  have hS' : Sat src pos ([41] ++ u) := hS
  rw [take_one hS' r41 (step_zero hS' r41 hm)]
  obtain ⟨M, k1, k2⟩ := h src _ (((s.at pos).add 2 (chB 41)).adv ((41 : Nat) : Int)) hS'.next rfl
  refine ⟨{ (s.at pos).cu with kd := 2, tx := chB 41 } :: M, ?_, ?_⟩
  · rw [← snoc_more]
    exact k1
  · rw [List.map_cons, k2]
    rfl
theorem RB.cls {u : List UInt8} {K : List (Int × ByteArray)} (h : RA u K) : RB (41 :: u) ((2, chB 41) :: K) := fun src pos s hS hm => by
  have hS' : Sat src pos ([41] ++ u) := hS
  rw [take_one hS' r41 (step_word hS' r41 hm (by decide))]
  obtain ⟨M, k1, k2⟩ := h src _ ((((s.endW src pos).at pos).add 2 (chB 41)).adv ((41 : Nat) : Int)) hS'.next rfl
  refine ⟨{ s.cu with kd := 3, tx := src.extract s.cu.po.toNat ((pos : Nat) : Int).toNat } :: { (s.at pos).cu with kd := 2, tx := chB 41 } :: M, ?_, ?_⟩
  · rw [← snoc_more, ← snoc_more]
    exact k1
  · rw [List.map_cons, List.map_cons, k2]
    rfl
theorem RA.word {x : ByteArray} (hx : WordOk x) {u : List UInt8} {K : List (Int × ByteArray)} (h : RB u K) : RA (x.toList ++ u) ((3, x) :: K) := fun src pos s hS hm => by
  obtain ⟨c, g1, g2, g3, g4⟩ := hx
  rw [g4] at hS
  have hxx : src.extract pos (pos + (cat c).length) = x := bytes_inj (by rw [hS.ext, g4])
  have hn := hS.next
  match c, g2 with
  | (b, r) :: c, _ =>
    obtain ⟨q1, q2, q3⟩ := g1
    have hS' : Sat src pos (b ++ (cat c ++ u)) := by rw [← List.append_assoc]; exact hS
    have hin : inW (r : Int) = true := q2
    obtain ⟨n1, n2, n3, n4, n5, n6⟩ := inW_ne hin
    have st : s.step src pos (r : Int) = ({ s.at pos with md := 1, ru := 1 }, 0, 0) := by
      rw [step_zero hS' q1 hm]
      unfold SC.begin
      rw [if_neg n2, if_neg n3, if_neg n4, if_neg n5, if_pos hin]
      rfl
    rw [take_one hS' q1 st, adv_ne _ n1]
    rw [word_run c (s := { ({ s.at pos with md := 1, ru := 1 } : SC) with cl := ({ s.at pos with md := 1, ru := 1 } : SC).cl + 1 }) q3 hS'.next rfl (by show (0 : Int) ≤ 1; decide) (by rw [List.length_cons] at g3; show (1 : Int) + (c.length : Int) ≤ 64; omega)]
    have hpl : pos + b.length + (cat c).length = pos + (cat ((b, r) :: c)).length := by
      show _ = pos + (b ++ cat c).length
      rw [List.length_append]
      omega
    rw [hpl]
    obtain ⟨M, k1, k2⟩ := h src _ (⟨1, s.tk, ⟨0, emp, pos, s.ln, s.cl⟩, s.ct, 1 + c.length, s.ln, s.cl + 1 + c.length⟩ : SC) hn rfl
    refine ⟨M, k1, ?_⟩
    rw [k2]
    show (3, src.extract ((pos : Nat) : Int).toNat _) :: _ = (3, x) :: _
    rw [← hxx]
    rfl
theorem RA.text {x : ByteArray} (hx : TextOk x) {u : List UInt8} {K : List (Int × ByteArray)} (h : RA u K) : RA ((quoteB x).toList ++ u) ((4, x) :: K) := fun src pos s hS hm => by
  obtain ⟨c, g1, g2⟩ := hx
  have e : (quoteB x).toList = 34 :: (qL (cat c) ++ [34]) := by rw [← g2]; exact quote_list x
  rw [e] at hS
  have hS0 : Sat src pos (34 :: (qL (cat c) ++ ([34] ++ u))) := by
    have h9 := hS
    rw [List.cons_append, List.append_assoc] at h9
    exact h9
  rw [open_quote hS0 hm]
  have hS1 : Sat src (pos + 1) (qL (cat c) ++ ([34] ++ u)) := Sat.next (b := [34]) hS0
  obtain ⟨ln1, cl1, e1⟩ := text_run c (s := { s with cu := ⟨0, emp, pos, s.ln, s.cl⟩, md := 2, ct := [], cl := s.cl + 1 }) g1 hS1 rfl
  rw [e1]
  have hS2 : Sat src (pos + 1 + (qL (cat c)).length) (34 :: u) := hS1.next
  rw [close_quote hS2 rfl]
  have hS3 : Sat src (pos + 1 + (qL (cat c)).length + 1) u := Sat.next (b := [34]) hS2
  obtain ⟨M, k1, k2⟩ := h src _ ({ ((({ s with cu := ⟨0, emp, pos, s.ln, s.cl⟩, md := 2, ct := [], cl := s.cl + 1 } : SC).txt c ln1 cl1).add 4 (toB ((({ s with cu := ⟨0, emp, pos, s.ln, s.cl⟩, md := 2, ct := [], cl := s.cl + 1 } : SC).txt c ln1 cl1).ct))) with cl := ((({ s with cu := ⟨0, emp, pos, s.ln, s.cl⟩, md := 2, ct := [], cl := s.cl + 1 } : SC).txt c ln1 cl1).cl) + 1 }) hS3 rfl
  refine ⟨⟨4, toB ([] ++ cat c), pos, s.ln, s.cl⟩ :: M, ?_, ?_⟩
  · rw [← snoc_more]
    exact k1
  · rw [List.map_cons, k2]
    show (4, toB ([] ++ cat c)) :: _ = (4, x) :: _
    rw [List.nil_append, ← g2, toB_of]
/-- One tree ahead of what can be read. -/
theorem RA.tree {x : Nd} {k : Fo} (hx : Fit x k) (hk : ∀ (u : List UInt8) (K : List (Int × ByteArray)), RA u K → RB u K → RA (showL false k ++ u) (toksF k ++ K)) {u : List UInt8} {K : List (Int × ByteArray)} (ha : RA u K) (hb : RB u K) :
    RA (showT x (showL false k) ++ u) ((if x.kd = 5 then (1, chB 40) :: (toksF k ++ [(2, chB 41)]) else [(x.kd, x.tx)]) ++ K) := by
  unfold showT
  rcases hx with ⟨h1, h2⟩ | ⟨⟨h1, h2⟩ | ⟨h1, h2⟩, rfl⟩
  · rw [if_neg (by omega), if_neg (by omega), if_pos h1, if_pos h1]
    have h9 := (hk (41 :: u) ((2, chB 41) :: K) ha.cls (RB.cls ha)).opn
    have e1 : 40 :: (showL false k ++ [41]) ++ u = 40 :: (showL false k ++ (41 :: u)) := by simp
    have e2 : ((1, chB 40) :: (toksF k ++ [(2, chB 41)])) ++ K = (1, chB 40) :: (toksF k ++ ((2, chB 41) :: K)) := by simp
    rw [e1, e2]
    exact h9
  · rw [if_pos h1, if_neg (by omega), h1]
    exact RA.word h2 hb
  · rw [if_neg (by omega), if_pos h1, if_neg (by omega), h1]
    exact RA.text h2 ha
theorem RA.forest : ∀ (f : Fo) (q : Bool) (u : List UInt8) (K : List (Int × ByteArray)), f.Good → RA u K → RB u K → RA (showL q f ++ u) (toksF f ++ K) ∧ (q = true → RB (showL q f ++ u) (toksF f ++ K))
  | .nil, q, u, K, _, ha, hb => ⟨ha, fun _ => hb⟩
  | .cons x k r, q, u, K, ⟨g1, g2, g3⟩, ha, hb => by
    obtain ⟨i1, i2⟩ := RA.forest r true u K g3 ha hb
    have hT := RA.tree g1 (fun v L h1 h2 => (RA.forest k false v L g2 h1 h2).1) i1 (i2 rfl)
    have e2 : toksF (.cons x k r) ++ K = (if x.kd = 5 then (1, chB 40) :: (toksF k ++ [(2, chB 41)]) else [(x.kd, x.tx)]) ++ (toksF r ++ K) := by
      show (_ ++ toksF r) ++ K = _
      rw [List.append_assoc]
    rw [e2]
    cases q with
    | false =>
      have e1 : showL false (.cons x k r) ++ u = showT x (showL false k) ++ (showL true r ++ u) := by
        show (([] : List UInt8) ++ (_ ++ _)) ++ u = _
        rw [List.nil_append, List.append_assoc]
      rw [e1]
      exact ⟨hT, fun e => by cases e⟩
    | true =>
      have e1 : showL true (.cons x k r) ++ u = 32 :: (showT x (showL false k) ++ (showL true r ++ u)) := by
        show (([32] : List UInt8) ++ (_ ++ _)) ++ u = _
        rw [List.append_assoc, List.append_assoc]
        rfl
      rw [e1]
      exact ⟨hT.blank (.inl rfl), fun _ => RB.blank (.inl rfl) hT⟩
theorem RA.tops : ∀ (f : Fo), f.Good → RA (topsL f) (toksF f)
  | .nil, _ => RA.nil
  | .cons x k r, ⟨g1, g2, g3⟩ => by
    have h := RA.tops r g3
    exact RA.tree g1 (fun v L h1 h2 => (RA.forest k false v L g2 h1 h2).1) (h.blank (.inr rfl)) (RB.blank (.inr rfl) h)
theorem scan_tops {f : Fo} (h : f.Good) (hs : (topsL f).length ≤ 65536) : ∃ M, scanB (toB (topsL f)) = (M, 0, 0) ∧ M.map kt = toksF f := by
  have hz : (toB (topsL f)).size ≤ 65536 := by rw [← toList_len, toB_list]; exact hs
  rw [scanB_at hz]
  have hS : Sat (toB (topsL f)) 0 (topsL f) := by
    have := Sat.start (toB (topsL f))
    rw [toB_list] at this
    exact this
  exact RA.tops f h _ 0 sc0 hS rfl
/-- How long what is shown is. -/
theorem shown_len : ∀ (f : Fo) (q : Bool), f.Good → ∀ (ts : List Tk), ts.map kt = toksF f → (showL q f).length ≤ wt ts ∧ (topsL f).length ≤ wt ts := by
  have one : ∀ (ts tr : List Tk), wt (ts ++ tr) = wt ts + wt tr := fun ts tr => by
    induction ts with
    | nil => show _ = 0 + _; rw [Nat.zero_add]; rfl
    | cons t ts ih => show wOf t + wt (ts ++ tr) = wOf t + wt ts + wt tr; rw [ih, Nat.add_assoc]
  have tree : ∀ (x : Nd) (k : Fo), Fit x k → (∀ (ts : List Tk), ts.map kt = toksF k → (showL false k).length ≤ wt ts) → ∀ (ts : List Tk), ts.map kt = (if x.kd = 5 then (1, chB 40) :: (toksF k ++ [(2, chB 41)]) else [(x.kd, x.tx)]) → (showT x (showL false k)).length + 1 ≤ wt ts := fun x k hx hk ts hts => by
    unfold showT
    rcases hx with ⟨h1, h2⟩ | ⟨⟨h1, h2⟩ | ⟨h1, h2⟩, rfl⟩
    · rw [if_pos h1] at hts
      rw [if_neg (by omega), if_neg (by omega), if_pos h1]
      obtain ⟨t0, tk', rfl, h3, h4⟩ := List.map_eq_cons_iff.1 hts
      obtain ⟨tk, tc', rfl, h6, h7⟩ := List.map_eq_append_iff.1 h4
      obtain ⟨tc, tc'', rfl, h8, h9⟩ := List.map_eq_cons_iff.1 h7
      obtain rfl := List.map_eq_nil_iff.1 h9
      have := hk tk h6
      have w0 := wOf_tx t0
      have wc := wOf_tx tc
      have z0 : t0.tx.size = 1 := by rw [show t0.tx = chB 40 from congrArg Prod.snd h3]; rfl
      have zc : tc.tx.size = 1 := by rw [show tc.tx = chB 41 from congrArg Prod.snd h8]; rfl
      show (40 :: (showL false k ++ [41])).length + 1 ≤ wOf t0 + wt (tk ++ [tc])
      rw [one, List.length_cons, List.length_append]
      show (showL false k).length + 1 + 1 + 1 ≤ wOf t0 + (wt tk + (wOf tc + 0))
      omega
    · rw [if_neg (by omega)] at hts
      rw [if_pos h1]
      obtain ⟨t0, tk', rfl, h3, h4⟩ := List.map_eq_cons_iff.1 hts
      obtain rfl := List.map_eq_nil_iff.1 h4
      have w0 := wOf_tx t0
      rw [toList_len, ← show t0.tx = x.tx from congrArg Prod.snd h3]
      show _ ≤ wOf t0 + 0
      omega
    · rw [if_neg (by omega)] at hts
      rw [if_neg (by omega), if_pos h1]
      obtain ⟨t0, tk', rfl, h3, h4⟩ := List.map_eq_cons_iff.1 hts
      obtain rfl := List.map_eq_nil_iff.1 h4
      have hq := quote_size x.tx
      rw [toList_len]
      have k0 : t0.kd = 4 := (show t0.kd = x.kd from congrArg Prod.fst h3).trans h1
      show _ ≤ wOf t0 + 0
      unfold wOf
      rw [if_pos k0, show t0.tx = x.tx from congrArg Prod.snd h3]
      omega
  intro f
  induction f with
  | nil => intro q _ ts h; exact ⟨Nat.zero_le _, Nat.zero_le _⟩
  | cons x k r ihk ihr =>
    intro q hg ts hts
    obtain ⟨g1, g2, g3⟩ := hg
    obtain ⟨ta, tb, rfl, h1, h2⟩ := List.map_eq_append_iff.1 (show ts.map kt = _ ++ toksF r from hts)
    have a := tree x k g1 (fun ts h => (ihk false g2 ts h).1) ta h1
    obtain ⟨b, c⟩ := ihr true g3 tb h2
    rw [one]
    refine ⟨?_, ?_⟩
    · show ((if q then [32] else []) ++ (showT x (showL false k) ++ showL true r)).length ≤ _
      rw [List.length_append, List.length_append]
      have : (if q = true then ([32] : List UInt8) else []).length ≤ 1 := by cases q <;> decide
      omega
    · show (showT x (showL false k) ++ (10 :: topsL r)).length ≤ _
      rw [List.length_append, List.length_cons]
      omega
theorem fine_any : ∀ {c : List (List UInt8 × Nat)}, Chs fineN c → Chs (fun _ => True) c
  | [], _ => trivial
  | (b, r) :: c, ⟨h1, h2, h3⟩ => ⟨h1, trivial, fine_any h3⟩
/-- Good forests are right, and the other way round. -/
theorem text_iff (s : ByteArray) : oddT s = false ↔ TextOk s := by
  constructor
  · intro h
    rcases text_cases s with ⟨_, h2⟩ | ⟨h2, _⟩
    · exact h2
    · rw [h] at h2; cases h2
  · rintro ⟨c, h1, h2⟩
    have h3 := fine_any h1
    have hr : runesB s = (c.length : Int) := by
      unfold runesB
      rw [rf_all c h3 (h2 ▸ Sat.start s) (by rw [← h2]; have := toList_len s; omega)]
    unfold oddT
    rw [hr, h2, odd_byte h1, decide_eq_false (by omega)]
    rfl
theorem right_of : ∀ (f : Fo) (d : Nat), f.Good → f.Wf → f.Pos → d + f.deep ≤ 21 → rightF d f = true
  | .nil, _, _, _, _, _ => rfl
  | .cons x k r, d, ⟨g1, g2, g3⟩, ⟨w1, w2, w3⟩, ⟨p1, p2, p3⟩, h => by
    have h : d + max (if x.kd = 5 then k.deep + 1 else 0) r.deep ≤ 21 := h
    have hr := right_of r d g3 w3 p3 (by omega)
    show (rightT d x (rightF (d + 1) k) && rightF d r) = true
    rw [hr, Bool.and_true]
    unfold rightT
    rw [if_neg (by omega)]
    rcases g1 with ⟨h1, h2⟩ | ⟨⟨h1, h2⟩ | ⟨h1, h2⟩, rfl⟩
    · rw [if_pos h1] at h
      rw [if_neg (by omega), if_neg (by omega), if_pos h1, right_of k (d + 1) g2 w2 p2 (by omega), h2, decide_eq_true (show d ≤ 20 by omega)]
      rfl
    · rw [if_pos h1, (wordB_iff _).2 h2, decide_eq_true (show x.ki = 0 from w1)]
      rfl
    · rw [if_neg (by omega), if_pos h1, (text_iff _).2 h2, decide_eq_true (show x.ki = 0 from w1)]
      rfl
theorem good_of : ∀ (f : Fo) (d : Nat), f.Wf → rightF d f = true → f.Good ∧ f.Pos ∧ (f.deep = 0 ∨ d + f.deep ≤ 21)
  | .nil, _, _, _ => ⟨trivial, trivial, .inl rfl⟩
  | .cons x k r, d, ⟨w1, w2, w3⟩, h => by
    have h' : (rightT d x (rightF (d + 1) k) && rightF d r) = true := h
    rw [Bool.and_eq_true] at h'
    obtain ⟨h8, hr⟩ := h'
    clear h
    have h := h8; clear h8
    obtain ⟨r1, r2, r3⟩ := good_of r d w3 hr
    have none : x.ki = 0 → k = .nil := fun e => by
      rw [w1] at e
      cases k with
      | nil => rfl
      | cons y a b => exact absurd e (by show ¬ ((b.len + 1 : Nat) : Int) = 0; omega)
    unfold rightT at h
    split at h
    · cases h
    rename_i hp
    have hd : (Fo.cons x k r).deep = max (if x.kd = 5 then k.deep + 1 else 0) r.deep := rfl
    rw [hd]
    split at h
    · rename_i h1
      rw [Bool.and_eq_true, decide_eq_true_iff] at h
      obtain ⟨q1, q2⟩ := h
      obtain rfl := none q1
      rw [if_neg (by omega)]
      exact ⟨⟨.inr ⟨.inl ⟨h1, (wordB_iff _).1 q2⟩, rfl⟩, trivial, r1⟩, ⟨by omega, trivial, r2⟩, by omega⟩
    split at h
    · rename_i h1
      rw [Bool.and_eq_true, decide_eq_true_iff, Bool.not_eq_true'] at h
      obtain ⟨q1, q2⟩ := h
      obtain rfl := none q1
      rw [if_neg (by omega)]
      exact ⟨⟨.inr ⟨.inr ⟨h1, (text_iff _).1 q2⟩, rfl⟩, trivial, r1⟩, ⟨by omega, trivial, r2⟩, by omega⟩
    split at h
    · rename_i h1
      rw [Bool.and_eq_true, Bool.and_eq_true, decide_eq_true_iff, decide_eq_true_iff] at h
      obtain ⟨⟨h2, h3⟩, h4⟩ := h
      obtain ⟨k1, k2, k3⟩ := good_of k (d + 1) w2 h4
      rw [if_pos h1]
      exact ⟨⟨.inl ⟨h1, h2⟩, k1, r1⟩, ⟨by omega, k2, r2⟩, by omega⟩
    · cases h
end Go.Proofs.Ytlndfognkkobaaa
