/-
  Events in plain words: what is right, an event's line, what a line says.
-/
import Derived.Test.YtaehcnoendieaaaDoorTcN
import Derived.Test.YtaehcnoendieaaaDoorLexX
import Derived.Lib.CutLaws
import Derived.Lib.SplitLaws
namespace Go.Proofs.YtaehcnoendieaaaDoor
open Go.RowKit
set_option linter.unusedVariables false
set_option linter.unusedSimpArgs false

structure Ev where
  now : Int
  what : ByteArray
  name : ByteArray
  n : Int
  deriving DecidableEq
def evrow (e : Ev) : List Value := [.int .i64 e.now, .string e.what, .string e.name, .int .i64 e.n]
def G1 : List ByteArray := [⟨#[117, 112]⟩, ⟨#[114, 97, 105, 115, 101]⟩, ⟨#[102, 105, 120]⟩]
def G2 : List ByteArray := [⟨#[99, 108, 101, 97, 110]⟩, ⟨#[114, 101, 102, 117, 115, 101, 100]⟩, ⟨#[104, 111, 112, 101, 108, 101, 115, 115]⟩, ⟨#[101, 118, 105, 99, 116]⟩, ⟨#[100, 101, 108, 101, 116, 101]⟩, ⟨#[107, 101, 101, 112]⟩, ⟨#[115, 116, 111, 112]⟩, ⟨#[103, 111, 110, 101]⟩, ⟨#[100, 111, 119, 110]⟩]
def G3 : List ByteArray := [⟨#[117, 110, 104, 101, 97, 108, 116, 104, 121]⟩]
def inB (l : List ByteArray) (s : ByteArray) : Bool := l.any fun x => decide (s = x)
def kindB (s : ByteArray) : Nat := if inB G1 s = true then 1 else if inB G2 s = true then 2 else if inB G3 s = true then 3 else 0
theorem inB_mem {l : List ByteArray} {s : ByteArray} : inB l s = true ↔ s ∈ l := by
  unfold inB
  rw [List.any_eq_true]
  exact ⟨fun ⟨x, h, e⟩ => by rw [of_decide_eq_true e]; exact h, fun h => ⟨s, h, decide_eq_true rfl⟩⟩
def rightE (e : Ev) : Bool := decide (0 ≤ e.now ∧ e.now ≤ 1099511627776) && (
  if kindB e.what = 1 then wordB e.name && decide (1 ≤ e.n ∧ e.n ≤ 200)
  else if kindB e.what = 2 then wordB e.name && decide (e.n = 0)
  else if kindB e.what = 3 then decide (e.name = emp ∧ e.n = 0) else false)
def bl : ByteArray := ⟨#[32]⟩
def lineE (e : Ev) : ByteArray :=
  let a := dgB e.now.toNat ++ ⟨#[58, 32]⟩ ++ e.what
  let b := if e.name = emp then a else a ++ (bl ++ e.name)
  if 0 < e.n then b ++ (bl ++ dgB e.n.toNat) else b
def dl (s : ByteArray) : List UInt8 := s.data.toList
theorem dl_inj {a b : ByteArray} (h : dl a = dl b) : a = b := ByteArray.ext (Array.toList_inj.mp h)
theorem dl_app (a b : ByteArray) : dl (a ++ b) = dl a ++ dl b := by unfold dl; simp
theorem dl_ls (l : List UInt8) : dl (lsB l) = l := rfl
theorem ls_dl (s : ByteArray) : lsB (dl s) = s := rfl
theorem dl_emp : dl emp = [] := rfl
theorem dl_nil {s : ByteArray} (h : dl s = []) : s = emp := dl_inj h
theorem dl_size (s : ByteArray) : (dl s).length = s.size := by unfold dl; simp
def tailL (e : Ev) : List UInt8 := (if e.name = emp then [] else 32 :: dl e.name) ++ (if 0 < e.n then 32 :: Lib.decDigits e.n.toNat else [])
theorem line_list (e : Ev) : dl (lineE e) = Lib.decDigits e.now.toNat ++ (58 :: 32 :: (dl e.what ++ tailL e)) := by
  unfold lineE tailL bl
  dsimp only
  split <;> split <;> simp only [dl_app, List.append_assoc, List.append_nil, List.nil_append, List.cons_append] <;> rfl
/-- Bytes that are above blanks. -/
def High (l : List UInt8) : Prop := ∀ c ∈ l, 32 < c.toNat
theorem dec_high (m : Nat) : High (Lib.decDigits m) := fun c hc => by
  have := (dec_digits m c hc).1
  omega
theorem dec_wid (l pos b0 b1 b2 b3 : Nat) : (dec l pos b0 b1 b2 b3).2 ≤ 4 := by
  unfold dec
  repeat' split
  all_goals (dsimp only; omega)
theorem rn_wid {b : List UInt8} {r : Nat} (h : Rn b r) : b.length ≤ 4 := by
  obtain ⟨hd, ho, hn⟩ := h
  cases b with
  | nil => exact absurd rfl hn
  | cons b0 u =>
    have h1 : (dec (b0 :: u).length 0 b0.toNat _ _ _).2 = _ := congrArg Prod.snd hd
    exact Nat.le_trans (Nat.le_of_eq h1.symm) (dec_wid _ _ _ _ _ _)
theorem word_high {s : ByteArray} (h : wordB s = true) : High (dl s) ∧ dl s ≠ [] ∧ s.size ≤ 256 := by
  obtain ⟨c, hc, h1, h64, hl⟩ := (wordB_iff s).1 h
  have hl2 : dl s = cat c := by rw [← hl, ByteArray.toList_eq]; rfl
  have hb : ∀ (c : List (List UInt8 × Nat)), Chs inWN c → High (cat c) ∧ (cat c).length ≤ 4 * c.length := by
    intro c
    induction c with
    | nil => exact fun _ => ⟨fun x hx => (by cases hx), Nat.le_refl _⟩
    | cons a c ih =>
      obtain ⟨b, r⟩ := a
      intro h
      obtain ⟨hr, hw, ht⟩ := h
      obtain ⟨i1, i2⟩ := ih ht
      have hw4 : b.length ≤ 4 := rn_wid hr
      refine ⟨fun x hx => ?_, ?_⟩
      · rcases List.mem_append.1 hx with hx | hx
        · rcases hr.bytes with ⟨y, rfl, hy, hlt⟩ | ⟨hge, hall⟩
          · obtain rfl := List.mem_singleton.1 hx
            have h7 : inW (r : Nat) = true := hw
            unfold inW at h7
            have h6 := of_decide_eq_true h7
            omega
          · have := hall x hx
            omega
        · exact i1 x hx
      · show (b ++ cat c).length ≤ _
        rw [List.length_append, List.length_cons]
        omega
  obtain ⟨k1, k2⟩ := hb c hc
  have hp := cat_pos hc
  refine ⟨by rw [hl2]; exact k1, fun e => ?_, ?_⟩
  · rw [hl2] at e
    rw [e] at hp
    have h9 : c.length ≤ 0 := hp
    omega
  · rw [← dl_size, hl2]
    omega
end Go.Proofs.YtaehcnoendieaaaDoor
