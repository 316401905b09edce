/-
  Copies of terms, of a pod.
-/
import Derived.Test.YthbpnfpalcgfeaaGreatFt8
namespace Go.Proofs.YthbpnfpalcgfeaaGreat
open Go.RowKit
set_option linter.unusedVariables false
set_option linter.unusedSimpArgs false

/-- Terms whose values lie in rows of the call's own. -/
def ValsOwn (B : Nat) (w : World) (L : List Lb.Trm) : Prop := ∀ t ∈ L, w.ownsRow B 9 1 (.slice t.va t.vals.length t.vk) t.vals.length (t.vals.flatMap scs)
def OwnT (w : World) (L : List Lb.Trm) (e : Ending) (w' : World) : Prop := (∃ (v : Value) (L' : List Lb.Trm), e = .returned v ∧ L'.map trmE = L.map trmE ∧ w'.ownsRow w.heap.size 61 3 v L'.length (L'.flatMap Lb.trcs) ∧ ValsOwn w.heap.size w' L') ∧ Below w.heap.size w w'
set_option maxRecDepth 100000 in
set_option maxHeartbeats 4000000 in
theorem ceach_any (c : Option Addr) (kc : Nat) (xs : List Lb.Trm) (w : World) (hF : Lb.TrmL w c xs) (hA : ∀ t ∈ xs, Lb.TrmAt w t) (hm : xs.length ≤ 1000) (hv : ∀ t ∈ xs, t.vals.length ≤ 1000000) :
    Calls Tryz.prog 89 #[.slice c xs.length kc, .func (.func 90) #[] #[]] w (OwnT w xs) := by
  obtain ⟨n, hn⟩ : ∃ n, xs.length = n := ⟨_, rfl⟩
  have HN := Lib.hid hn
  have HF := Lib.hid hF
  have HA := Lib.hid hA
  have HV := Lib.hid hv
  rw [hn] at hm ⊢
  clear hn hF hA hv
  obtain ⟨i0, hi, hz0, hz1, hz2⟩ := info_parts Tryz.info61
  have Hi := Lib.hid hi
  have Hz0 := Lib.hid hz0
  have Hz1 := Lib.hid hz1
  have Hz2 := Lib.hid hz2
  clear hi hz0 hz1 hz2
  go_enter Tryz.func89, Tryz.ntmps89
  go_wp2
  go_loopw [5, 10] (fun vo vi wr => ∃ (k : Nat) (Q : List Lb.Trm), k ≤ n ∧ vi = .int .i64 k ∧ Q.map trmE = (xs.take k).map trmE ∧ Q.length = k ∧ ValsOwn w.heap.size wr Q ∧ wr.ownsRow w.heap.size 61 3 vo Q.length (Q.flatMap Lb.trcs) ∧ Below w.heap.size w wr) (fun _ vi _ => n - (intOf vi).toNat)
  case atStart => exact ⟨0, [], Nat.zero_le _, rfl, rfl, rfl, fun t ht => (by cases ht), World.ownsRow_nil _ _ _ _, by (repeat' (first | with_reducible exact Below.refl _ _ | with_reducible assumption | with_reducible refine Below.drew ?_ | with_reducible refine below_drewN' ?_ _ | with_reducible refine Below.alloc ?_ ?_ _ | with_reducible refine Below.setCell ?_ ?_ _ | with_reducible refine below_step (by assumption) ?_ ?_ | omega | (simp; done) | (simp; omega)))⟩
  case round =>
    obtain ⟨k, Q, hk, rfl, hE, hLk, hQ, hO, hB⟩ := hrel
    have HE := Lib.hid hE
    have HB := Lib.hid hB
    have HO := Lib.hid hO
    have HQ := Lib.hid hQ
    have HLk := Lib.hid hLk
    have hbz := hB.size
    obtain ⟨ao, ko, rfl⟩ := own_sl hO
    by_cases hlt : k < n
    · obtain ⟨t, ht⟩ := mem_at (l := xs) (k := k) (by rw [HN.out]; exact hlt)
      have htm := List.mem_of_getElem? ht
      obtain ⟨b, o, rfl, hb, hc⟩ := (HF.out.mono hB) (by rw [HN.out]; omega)
      obtain ⟨W, hW⟩ : ∃ W, W = wr.alloc (.cells #[.string t.key, .int .i64 t.op, .slice t.va t.vals.length t.vk] 61) := ⟨_, rfl⟩
      have hbW : Below wr.heap.size wr W := by rw [hW]; exact (Below.refl _ _).alloc (Nat.le_refl _) _
      have HBW := Lib.hid (HB.out.trans (hbW.mono hbz))
      have HOW := Lib.hid (own_kept HO.out hbW)
      have HQW := Lib.hid (show ValsOwn w.heap.size W Q from fun t h => own_kept (hQ t h) hbW)
      have HXW := Lib.hid (show W.rangeAt wr.heap.size 0 [.string t.key, .int .i64 t.op, .slice t.va t.vals.length t.vk] by rw [hW]; exact rangeAt_new wr _ _)
      have HRg := Lib.hid (show wr.rangeAt b (o + k * 3) [.string t.key, .int .i64 t.op, .slice t.va t.vals.length t.vk] from fun j v hj => by
        rw [hc k t ht j (List.getElem?_eq_some_iff.1 hj).1]; exact hj)
      have HT1 := Lib.hid (fun V (hV : Below w.heap.size w V) => term1_any t V ((HA.out t htm).mono hV) (HV.out t htm))
      have HNx := Lib.hid (show (xs.take (k + 1)).map trmE = Q.map trmE ++ [trmE t] by rw [List.take_add_one, ht, List.map_append, hE]; rfl)
      have hWz : w.heap.size ≤ W.heap.size := Nat.le_trans hbz hbW.size
      obtain ⟨X, hX⟩ : ∃ X, wr.heap.size = X := ⟨_, rfl⟩
      rw [hX] at HXW
      clear hE hO hB hc ht htm hQ hLk hbW
      go_upto_region 5 with (first
        | ((with_reducible refine at_load (ty := 61) ?_); refine load_cells rfl 61 (.tmp 12) rfl b (o + k * 3) rfl [.string t.key, .int .i64 t.op, .slice t.va t.vals.length t.vk] _ Tryz.underlying61 rfl (by kernel_rfl) HRg.out ?_)
        | ((with_reducible refine at_store (ty := 61) ?_); refine store_new rfl 61 (.tmp 7) (.tmp 13) rfl _ _ rfl rfl (by kernel_rfl) rfl (by rfl) rfl ?_))
      (try rw [hX])
      rw [← hW]
      clear hW hX
      go_wp2_with (first
        | ((with_reducible refine at_load (ty := 61) ?_); refine load_cells rfl 61 (.tmp 7) rfl X 0 rfl [.string t.key, .int .i64 t.op, .slice t.va t.vals.length t.vk] _ Tryz.underlying61 rfl (by kernel_rfl) HXW.out ?_)
        | (go_at_call 90; (with_reducible refine (HT1.out _ HBW.out).mono ?_); rintro e w3 ⟨⟨a3, k3, rfl, ht3⟩, hb3⟩; have HB3 := Lib.hid (HBW.out.trans (hb3.mono hWz)); have hbz3 := Nat.le_trans hWz hb3.size; have HO3 := Lib.hid (own_kept HOW.out hb3); have HQ3 := Lib.hid (show ValsOwn w.heap.size w3 Q from fun t h => own_kept (HQW.out t h) hb3); have HT3 := Lib.hid (own_base ht3 hWz); clear hb3 ht3)
        | (at_builtin; refine wpList_append_src rfl (.tmp 14) (.tmp 18) 27 rfl w.heap.size 61 i0 _ 3 48 Tryz.underlying27 Hi.out Hz0.out Hz1.out Hz2.out rfl (by decide) _ Q.length (Q.flatMap Lb.trcs) rfl (HO3.out.alloc _) (some ⟨w3.heap.size, 0, none⟩) 1 1 [.string t.key, .int .i64 t.op, .slice a3 t.vals.length k3] rfl rfl (fun q e => by injection e with e; rw [← e]; exact news_at _ _ _) (fun e => by cases e) (trcs_one ⟨t.key, t.op, a3, k3, t.vals⟩) (by unfold maxLen; have := HLk.out; omega) (by have := HLk.out; omega) (by simp; omega) ?_; intro v6 w6 hown6 hgrow6; obtain ⟨a6, k6, rfl⟩ := own_sl hown6; have HG6 := Lib.hid hgrow6; have HB6 := Lib.hid (own_below (HO3.out.alloc _) (HB3.out.alloc hbz3 _) (by simp; omega) hgrow6); have HO6 := Lib.hid hown6; clear hown6 hgrow6))
      go_roundw
      case rel =>
        refine ⟨k + 1, Q ++ [⟨t.key, t.op, a3, k3, t.vals⟩], by omega, by go_num, by rw [List.map_append, HNx.out]; rfl, by rw [List.length_append, HLk.out]; rfl, ?_, ?_, HB6.out⟩
        · have hS : Below w3.heap.size w3 (w3.alloc (.cells #[.string t.key, .int .i64 t.op, .slice a3 t.vals.length k3] 61)) := (Below.refl _ _).alloc (Nat.le_refl _) _
          intro u hu
          rcases List.mem_append.1 hu with hu | hu
          · exact own_grown (own_kept (HQ3.out u hu) hS) (own_kept HO3.out hS) (by decide) HG6.out
          · obtain rfl : u = ⟨t.key, t.op, a3, k3, t.vals⟩ := by simpa using hu
            exact own_grown (own_kept HT3.out hS) (own_kept HO3.out hS) (by decide) HG6.out
        · rw [List.length_append, List.flatMap_append]
          have h9 := HO6.out
          simpa [Lb.trcs] using h9
      case measure => simp [intOf]; omega
    · obtain rfl : k = n := by omega
      have HL := Lib.hid (show Q.map trmE = xs.map trmE by rw [hE, List.take_of_length_le (by rw [HN.out]; exact Nat.le_refl _)])
      clear hE hO hB hQ hLk
      go_wp2
      refine bodyPost_ret (v := .slice ao Q.length ko) (by simp [results, Tryz.results89, go_sem]) rfl ⟨⟨_, Q, rfl, HL.out, HO.out, HQ.out⟩, HB.out⟩
set_option maxRecDepth 100000 in
set_option maxHeartbeats 4000000 in
theorem cterms_any (c : Option Addr) (kc : Nat) (xs : List Lb.Trm) (w : World) (hF : Lb.TrmL w c xs) (hA : ∀ t ∈ xs, Lb.TrmAt w t) (hm : xs.length ≤ 1000) (hv : ∀ t ∈ xs, t.vals.length ≤ 1000000) :
    Calls Tryz.prog 60 #[.slice c xs.length kc] w (OwnT w xs) := by
  have HC := Lib.hid (fun V (hV : Below w.heap.size w V) => ceach_any c kc xs V (hF.mono hV) (fun t ht => (hA t ht).mono hV) hm hv)
  clear hF hA hv
  go_enter Tryz.func60, Tryz.ntmps60
  go_wp2_with (go_at_call 89; (with_reducible refine (HC.out _ (Below.refl _ _)).mono ?_); rintro e w1 ⟨⟨v, L', rfl, h1, h2, h3⟩, h4⟩; have H1 := Lib.hid h1; have H2 := Lib.hid h2; have H3 := Lib.hid h3; have H4 := Lib.hid h4; clear h1 h2 h3 h4)
  go_ret
  exact ⟨⟨v, L', rfl, H1.out, H2.out, H3.out⟩, H4.out⟩

/-- A pod but for where its lists lie. -/
def podE (p : Pd) : Pd := { p with la := none, lk := 0, sa := none, sk := 0, ta := none, tk := 0, trms := p.trms.map trmE, ba := none, bk := 0, pa := none, pk := 0, aa := none, ak := 0, da := none, dk := 0 }
/-- All of its lists lie from a block on. -/
structure PodFar (B : Nat) (p : Pd) : Prop where
  l0 : ∀ q o, p.la = some ⟨q, o, none⟩ → B ≤ q
  l1 : ∀ q o, p.sa = some ⟨q, o, none⟩ → B ≤ q
  l2 : ∀ q o, p.ta = some ⟨q, o, none⟩ → B ≤ q
  l3 : ∀ t ∈ p.trms, ∀ q o, t.va = some ⟨q, o, none⟩ → B ≤ q
  l4 : ∀ q o, p.ba = some ⟨q, o, none⟩ → B ≤ q
  l5 : ∀ q o, p.pa = some ⟨q, o, none⟩ → B ≤ q
  l6 : ∀ q o, p.aa = some ⟨q, o, none⟩ → B ≤ q
  l7 : ∀ q o, p.da = some ⟨q, o, none⟩ → B ≤ q
theorem rows_only {α : Type} {enc : α → List Value} {K B : Nat} {w w' : World} {a : Option Addr} {l : List α} {S : List Nat} (h : RowsAt enc K w a l) (hf : ∀ q o, a = some ⟨q, o, none⟩ → B ≤ q) (ho : Only S w w') (hS : ∀ g ∈ S, g < B) : RowsAt enc K w' a l := fun h0 => by
  obtain ⟨q, o, e, hq, hr⟩ := h h0
  have hge := hf q o e
  refine ⟨q, o, e, Nat.lt_of_lt_of_le hq ho.size, fun i x hx r hr2 => ?_⟩
  rw [World.cell?_of_block (ho.block q hq (fun hm => by have := hS q hm; omega))]
  exact hr i x hx r hr2
theorem PodIn.only {w w' : World} {p : Pd} {B : Nat} {S : List Nat} (h : PodIn w p) (hf : PodFar B p) (ho : Only S w w') (hS : ∀ g ∈ S, g < B) : PodIn w' p :=
  ⟨⟨rows_only h.here.labs hf.l0 ho hS, rows_only h.here.sels hf.l1 ho hS, rows_only h.here.trms hf.l2 ho hS, fun t ht => ⟨rows_only (h.here.trmA t ht).1 (hf.l3 t ht) ho hS, (h.here.trmA t ht).2⟩, rows_only h.here.bers hf.l4 ho hS, rows_only h.here.prts hf.l5 ho hS, rows_only h.here.aprs hf.l6 ho hS, rows_only h.here.spds hf.l7 ho hS,
    h.here.ll, h.here.sl, h.here.tl, h.here.bl, h.here.pl, h.here.al, h.here.dl⟩, h.ln, h.sn, h.tn, h.bn, h.pn, h.an, h.dn⟩
theorem own_far {w : World} {B : Nat} {a : Option Addr} {n k K : Nat} {m : Nat} {e : TypeId} {xs : List Value} (h : w.ownsRow B e K (.slice a n k) m xs) : ∀ q o, a = some ⟨q, o, none⟩ → B ≤ q := fun q o e => by
  subst e
  exact (h.lt q rfl).1
def GivesPd (w : World) (p : Pd) (e : Ending) (w' : World) : Prop := (∃ p' : Pd, e = .returned (.agg (prow p').toArray) ∧ podE p' = podE p ∧ PodIn w' p' ∧ PodFar w.heap.size p') ∧ Below w.heap.size w w'
theorem own_parts {α : Type} {enc : α → List Value} {K B : Nat} {t : TypeId} {w : World} {a : Option Addr} {k : Nat} {l : List α} (hk : ∀ x, (enc x).length = K) (hK : 0 < K) (h : w.ownsRow B t K (.slice a l.length k) l.length (l.flatMap enc)) : RowsAt enc K w a l ∧ NilOk a l.length k ∧ l.length ≤ k := by
  obtain ⟨a', k', e, h1, h2⟩ := IsL.of_own hk hK h
  injection e with e1 e2 e3
  subst e1 e3
  refine ⟨h2, h1, ?_⟩
  rcases h.2 with ⟨e, h0⟩ | ⟨g, cap, cur, e, _, _, hc, _⟩
  · omega
  · injection e with e1 e2 e3
    omega
set_option maxRecDepth 100000 in
set_option maxHeartbeats 8000000 in
theorem cpod_any (p : Pd) (w : World) (hP : PodAt w p) (hp : lightP p = true) :
    Calls Tryz.prog 41 #[.agg (prow p).toArray] w (GivesPd w p) := by
  have hl := lightP_iff hp
  have hl1 := ((lightL_iff _).1 hl.l0).1
  have hl2 := ((lightL_iff _).1 hl.l1).1
  have hl3 := ((lightL_iff _).1 hl.l2).1
  have hl4 := ((lightL_iff _).1 hl.l3).1
  have hb9 := (ber_sz hl.bl).1
  have HC0 := Lib.hid (fun V (hV : Below w.heap.size w V) => clab_any p.la p.lk p.labs V (hP.labs.mono hV) (by omega))
  have HC1 := Lib.hid (fun V (hV : Below w.heap.size w V) => clab_any p.sa p.sk p.sels V (hP.sels.mono hV) (by omega))
  have HC2 := Lib.hid (fun V (hV : Below w.heap.size w V) => cterms_any p.ta p.tk p.trms V (hP.trms.mono hV) (fun t ht => (hP.trmA t ht).mono hV) (by have := hl.tl; omega) (fun t ht => by have := (Lb.lightTm_ok (hl.tt t ht)).1; omega))
  have HC3 := Lib.hid (fun V (hV : Below w.heap.size w V) => ctol_any p.ba p.bk p.bers V (hP.bers.mono hV) (by omega))
  have HC4 := Lib.hid (fun V (hV : Below w.heap.size w V) => cint_any p.pa p.pk p.prts V (hP.prts.mono hV) (by have := hl.pl; omega))
  have HC5 := Lib.hid (fun V (hV : Below w.heap.size w V) => clab_any p.aa p.ak p.aprs V (hP.aprs.mono hV) (by omega))
  have HC6 := Lib.hid (fun V (hV : Below w.heap.size w V) => clab_any p.da p.dk p.spds V (hP.spds.mono hV) (by omega))
  have HPA := Lib.hid hP
  obtain ⟨V0, hV0⟩ : ∃ W, W = (w.alloc (.cells #[.string (p).nm, .int .i64 (p).n0, .int .i64 (p).n1, .int .i64 (p).n2, .int .i64 (p).n3, .int .i64 (p).n4, .slice (p).la (p).labs.length (p).lk, .slice (p).sa (p).sels.length (p).sk, .slice (p).ta (p).trms.length (p).tk, .slice (p).ba (p).bers.length (p).bk, .slice (p).pa (p).prts.length (p).pk, .slice (p).aa (p).aprs.length (p).ak, .bool (p).wd, .slice (p).da (p).spds.length (p).dk, .int .i64 (p).sw, .int .i64 (p).rk, .string (p).ow, .bool (p).dm, .bool (p).pn, .bool (p).lc] 31)).alloc (.cells #[.string ⟨#[]⟩, .int .i64 0, .int .i64 0, .int .i64 0, .int .i64 0, .int .i64 0, .slice none 0 0, .slice none 0 0, .slice none 0 0, .slice none 0 0, .slice none 0 0, .slice none 0 0, .bool false, .slice none 0 0, .int .i64 0, .int .i64 0, .string ⟨#[]⟩, .bool false, .bool false, .bool false] 31) := ⟨_, rfl⟩
  have hX : Blk V0 w.heap.size 31 (prow p) := by rw [hV0]; exact (Blk.new w 31 (prow p)).alloc _
  have hR : Blk V0 (w.heap.size + 1) 31 [.string ⟨#[]⟩, .int .i64 0, .int .i64 0, .int .i64 0, .int .i64 0, .int .i64 0, .slice none 0 0, .slice none 0 0, .slice none 0 0, .slice none 0 0, .slice none 0 0, .slice none 0 0, .bool false, .slice none 0 0, .int .i64 0, .int .i64 0, .string ⟨#[]⟩, .bool false, .bool false, .bool false] := by
    rw [hV0]
    have h9 := Blk.new (w.alloc (.cells #[.string (p).nm, .int .i64 (p).n0, .int .i64 (p).n1, .int .i64 (p).n2, .int .i64 (p).n3, .int .i64 (p).n4, .slice (p).la (p).labs.length (p).lk, .slice (p).sa (p).sels.length (p).sk, .slice (p).ta (p).trms.length (p).tk, .slice (p).ba (p).bers.length (p).bk, .slice (p).pa (p).prts.length (p).pk, .slice (p).aa (p).aprs.length (p).ak, .bool (p).wd, .slice (p).da (p).spds.length (p).dk, .int .i64 (p).sw, .int .i64 (p).rk, .string (p).ow, .bool (p).dm, .bool (p).pn, .bool (p).lc] 31)) 31 [.string ⟨#[]⟩, .int .i64 0, .int .i64 0, .int .i64 0, .int .i64 0, .int .i64 0, .slice none 0 0, .slice none 0 0, .slice none 0 0, .slice none 0 0, .slice none 0 0, .slice none 0 0, .bool false, .slice none 0 0, .int .i64 0, .int .i64 0, .string ⟨#[]⟩, .bool false, .bool false, .bool false]
    rw [World.size_alloc] at h9
    exact h9
  have hbw : Below w.heap.size w V0 := by rw [hV0]; (repeat' (first | with_reducible exact Below.refl _ _ | with_reducible assumption | with_reducible refine Below.drew ?_ | with_reducible refine below_drewN' ?_ _ | with_reducible refine Below.alloc ?_ ?_ _ | with_reducible refine Below.setCell ?_ ?_ _ | with_reducible refine below_step (by assumption) ?_ ?_ | omega | (simp; done) | (simp; omega)))
  have HX0 := Lib.hid hX
  have HR0 := Lib.hid hR
  have HB0 := Lib.hid hbw
  have HZ0 := Lib.hid (show w.heap.size + 2 ≤ V0.heap.size from hR.lt)
  show Calls Tryz.prog 41 #[.agg #[.string (p).nm, .int .i64 (p).n0, .int .i64 (p).n1, .int .i64 (p).n2, .int .i64 (p).n3, .int .i64 (p).n4, .slice (p).la (p).labs.length (p).lk, .slice (p).sa (p).sels.length (p).sk, .slice (p).ta (p).trms.length (p).tk, .slice (p).ba (p).bers.length (p).bk, .slice (p).pa (p).prts.length (p).pk, .slice (p).aa (p).aprs.length (p).ak, .bool (p).wd, .slice (p).da (p).spds.length (p).dk, .int .i64 (p).sw, .int .i64 (p).rk, .string (p).ow, .bool (p).dm, .bool (p).pn, .bool (p).lc]] w _
  clear hX hR hbw hP hl hl1 hl2 hl3 hl4 hb9 hp
  go_enter Tryz.func41, Tryz.ntmps41
  go_upto_region 1 with (fail)
  rw [← hV0]
  clear hV0
  have x0 : V0.cell? ⟨w.heap.size, 6, none⟩ = some (.slice (p.la) (p.labs).length (p.lk)) := HX0.out.cell 6
  have hlx := HX0.out.lt
  have hlz := HZ0.out
  go_upto_region 2 with (go_at_call 59; (with_reducible refine (HC0.out _ HB0.out).mono ?_); rintro e w1 ⟨⟨v, rfl, hv⟩, hb⟩; obtain ⟨a0, k0, rfl⟩ := own_sl hv; have HA0 := Lib.hid (own_base (B' := w.heap.size + 2) hv hlz); have HY0 := Lib.hid (HX0.out.below hb); have HS0 := Lib.hid (HR0.out.below hb); have HBw0 := Lib.hid (HB0.out.trans (hb.mono HB0.out.size)); have HZw0 := Lib.hid (Nat.le_trans hlz hb.size); have y0 : w1.cell? ⟨w.heap.size, 6, none⟩ = some (.slice (p.la) (p.labs).length (p.lk)) := HY0.out.cell 6; have g0 := HY0.out.frozen 6; have hly := HY0.out.lt; have HO0 := Lib.hid (Only.of_below (S := [w.heap.size, w.heap.size + 1]) hb); clear hb hv)
  obtain ⟨V1, hV1⟩ : ∃ V, V = w1.setCell ⟨w.heap.size, 6, none⟩ (.slice a0 (p.labs).length k0) := ⟨_, rfl⟩
  have HX1 := Lib.hid (show Blk V1 w.heap.size 31 _ by rw [hV1]; exact HY0.out.set 6 _)
  have HR1 := Lib.hid (show Blk V1 (w.heap.size + 1) 31 _ by rw [hV1]; exact HS0.out.other (by show w.heap.size + 1 ≠ w.heap.size; omega) _)
  have HB1 := Lib.hid (show Below w.heap.size w V1 by rw [hV1]; exact HBw0.out.setCell (Nat.le_refl _) _)
  have HZ1 := Lib.hid (show w.heap.size + 2 ≤ V1.heap.size by rw [hV1]; simpa using HZw0.out)
  have HW0 := Lib.hid (show Only [w.heap.size, w.heap.size + 1] w1 V1 by rw [hV1]; exact (Only.refl _ _).setCell (.inl (by simp)) _)
  rw [← hV1]
  clear hV1 x0 y0 g0 hly hlx hlz HY0 HS0 HBw0 HZw0
  have x1 : V1.cell? ⟨w.heap.size, 7, none⟩ = some (.slice (p.sa) (p.sels).length (p.sk)) := HX1.out.cell 7
  have hlx := HX1.out.lt
  have hlz := HZ1.out
  go_upto_region 3 with (go_at_call 59; (with_reducible refine (HC1.out _ HB1.out).mono ?_); rintro e w2 ⟨⟨v, rfl, hv⟩, hb⟩; obtain ⟨a1, k1, rfl⟩ := own_sl hv; have HA1 := Lib.hid (own_base (B' := w.heap.size + 2) hv hlz); have HY1 := Lib.hid (HX1.out.below hb); have HS1 := Lib.hid (HR1.out.below hb); have HBw1 := Lib.hid (HB1.out.trans (hb.mono HB1.out.size)); have HZw1 := Lib.hid (Nat.le_trans hlz hb.size); have y1 : w2.cell? ⟨w.heap.size, 7, none⟩ = some (.slice (p.sa) (p.sels).length (p.sk)) := HY1.out.cell 7; have g1 := HY1.out.frozen 7; have hly := HY1.out.lt; have HO1 := Lib.hid (Only.of_below (S := [w.heap.size, w.heap.size + 1]) hb); clear hb hv)
  obtain ⟨V2, hV2⟩ : ∃ V, V = w2.setCell ⟨w.heap.size, 7, none⟩ (.slice a1 (p.sels).length k1) := ⟨_, rfl⟩
  have HX2 := Lib.hid (show Blk V2 w.heap.size 31 _ by rw [hV2]; exact HY1.out.set 7 _)
  have HR2 := Lib.hid (show Blk V2 (w.heap.size + 1) 31 _ by rw [hV2]; exact HS1.out.other (by show w.heap.size + 1 ≠ w.heap.size; omega) _)
  have HB2 := Lib.hid (show Below w.heap.size w V2 by rw [hV2]; exact HBw1.out.setCell (Nat.le_refl _) _)
  have HZ2 := Lib.hid (show w.heap.size + 2 ≤ V2.heap.size by rw [hV2]; simpa using HZw1.out)
  have HW1 := Lib.hid (show Only [w.heap.size, w.heap.size + 1] w2 V2 by rw [hV2]; exact (Only.refl _ _).setCell (.inl (by simp)) _)
  rw [← hV2]
  clear hV2 x1 y1 g1 hly hlx hlz HY1 HS1 HBw1 HZw1
  have x2 : V2.cell? ⟨w.heap.size, 8, none⟩ = some (.slice (p.ta) (p.trms).length (p.tk)) := HX2.out.cell 8
  have hlx := HX2.out.lt
  have hlz := HZ2.out
  go_upto_region 4 with (go_at_call 60; (with_reducible refine (HC2.out _ HB2.out).mono ?_); rintro e w3 ⟨⟨v, L', rfl, hm, hv, hvo⟩, hb⟩; obtain ⟨a2, k2, rfl⟩ := own_sl hv; have HVo := Lib.hid (show ValsOwn (w.heap.size + 2) w3 L' from fun t h => own_base (hvo t h) hlz); have HM := Lib.hid hm; clear hvo hm; have HA2 := Lib.hid (own_base (B' := w.heap.size + 2) hv hlz); have HY2 := Lib.hid (HX2.out.below hb); have HS2 := Lib.hid (HR2.out.below hb); have HBw2 := Lib.hid (HB2.out.trans (hb.mono HB2.out.size)); have HZw2 := Lib.hid (Nat.le_trans hlz hb.size); have y2 : w3.cell? ⟨w.heap.size, 8, none⟩ = some (.slice (p.ta) (p.trms).length (p.tk)) := HY2.out.cell 8; have g2 := HY2.out.frozen 8; have hly := HY2.out.lt; have HO2 := Lib.hid (Only.of_below (S := [w.heap.size, w.heap.size + 1]) hb); clear hb hv)
  obtain ⟨V3, hV3⟩ : ∃ V, V = w3.setCell ⟨w.heap.size, 8, none⟩ (.slice a2 L'.length k2) := ⟨_, rfl⟩
  have HX3 := Lib.hid (show Blk V3 w.heap.size 31 _ by rw [hV3]; exact HY2.out.set 8 _)
  have HR3 := Lib.hid (show Blk V3 (w.heap.size + 1) 31 _ by rw [hV3]; exact HS2.out.other (by show w.heap.size + 1 ≠ w.heap.size; omega) _)
  have HB3 := Lib.hid (show Below w.heap.size w V3 by rw [hV3]; exact HBw2.out.setCell (Nat.le_refl _) _)
  have HZ3 := Lib.hid (show w.heap.size + 2 ≤ V3.heap.size by rw [hV3]; simpa using HZw2.out)
  have HW2 := Lib.hid (show Only [w.heap.size, w.heap.size + 1] w3 V3 by rw [hV3]; exact (Only.refl _ _).setCell (.inl (by simp)) _)
  rw [← hV3]
  clear hV3 x2 y2 g2 hly hlx hlz HY2 HS2 HBw2 HZw2
  have x3 : V3.cell? ⟨w.heap.size, 9, none⟩ = some (.slice (p.ba) (p.bers).length (p.bk)) := HX3.out.cell 9
  have hlx := HX3.out.lt
  have hlz := HZ3.out
  go_upto_region 5 with (go_at_call 61; (with_reducible refine (HC3.out _ HB3.out).mono ?_); rintro e w4 ⟨⟨v, rfl, hv⟩, hb⟩; obtain ⟨a3, k3, rfl⟩ := own_sl hv; have HA3 := Lib.hid (own_base (B' := w.heap.size + 2) hv hlz); have HY3 := Lib.hid (HX3.out.below hb); have HS3 := Lib.hid (HR3.out.below hb); have HBw3 := Lib.hid (HB3.out.trans (hb.mono HB3.out.size)); have HZw3 := Lib.hid (Nat.le_trans hlz hb.size); have y3 : w4.cell? ⟨w.heap.size, 9, none⟩ = some (.slice (p.ba) (p.bers).length (p.bk)) := HY3.out.cell 9; have g3 := HY3.out.frozen 9; have hly := HY3.out.lt; have HO3 := Lib.hid (Only.of_below (S := [w.heap.size, w.heap.size + 1]) hb); clear hb hv)
  obtain ⟨V4, hV4⟩ : ∃ V, V = w4.setCell ⟨w.heap.size, 9, none⟩ (.slice a3 (p.bers).length k3) := ⟨_, rfl⟩
  have HX4 := Lib.hid (show Blk V4 w.heap.size 31 _ by rw [hV4]; exact HY3.out.set 9 _)
  have HR4 := Lib.hid (show Blk V4 (w.heap.size + 1) 31 _ by rw [hV4]; exact HS3.out.other (by show w.heap.size + 1 ≠ w.heap.size; omega) _)
  have HB4 := Lib.hid (show Below w.heap.size w V4 by rw [hV4]; exact HBw3.out.setCell (Nat.le_refl _) _)
  have HZ4 := Lib.hid (show w.heap.size + 2 ≤ V4.heap.size by rw [hV4]; simpa using HZw3.out)
  have HW3 := Lib.hid (show Only [w.heap.size, w.heap.size + 1] w4 V4 by rw [hV4]; exact (Only.refl _ _).setCell (.inl (by simp)) _)
  rw [← hV4]
  clear hV4 x3 y3 g3 hly hlx hlz HY3 HS3 HBw3 HZw3
  have x4 : V4.cell? ⟨w.heap.size, 10, none⟩ = some (.slice (p.pa) (p.prts).length (p.pk)) := HX4.out.cell 10
  have hlx := HX4.out.lt
  have hlz := HZ4.out
  go_upto_region 6 with (go_at_call 62; (with_reducible refine (HC4.out _ HB4.out).mono ?_); rintro e w5 ⟨⟨v, rfl, hv⟩, hb⟩; obtain ⟨a4, k4, rfl⟩ := own_sl hv; have HA4 := Lib.hid (own_base (B' := w.heap.size + 2) hv hlz); have HY4 := Lib.hid (HX4.out.below hb); have HS4 := Lib.hid (HR4.out.below hb); have HBw4 := Lib.hid (HB4.out.trans (hb.mono HB4.out.size)); have HZw4 := Lib.hid (Nat.le_trans hlz hb.size); have y4 : w5.cell? ⟨w.heap.size, 10, none⟩ = some (.slice (p.pa) (p.prts).length (p.pk)) := HY4.out.cell 10; have g4 := HY4.out.frozen 10; have hly := HY4.out.lt; have HO4 := Lib.hid (Only.of_below (S := [w.heap.size, w.heap.size + 1]) hb); clear hb hv)
  obtain ⟨V5, hV5⟩ : ∃ V, V = w5.setCell ⟨w.heap.size, 10, none⟩ (.slice a4 (p.prts).length k4) := ⟨_, rfl⟩
  have HX5 := Lib.hid (show Blk V5 w.heap.size 31 _ by rw [hV5]; exact HY4.out.set 10 _)
  have HR5 := Lib.hid (show Blk V5 (w.heap.size + 1) 31 _ by rw [hV5]; exact HS4.out.other (by show w.heap.size + 1 ≠ w.heap.size; omega) _)
  have HB5 := Lib.hid (show Below w.heap.size w V5 by rw [hV5]; exact HBw4.out.setCell (Nat.le_refl _) _)
  have HZ5 := Lib.hid (show w.heap.size + 2 ≤ V5.heap.size by rw [hV5]; simpa using HZw4.out)
  have HW4 := Lib.hid (show Only [w.heap.size, w.heap.size + 1] w5 V5 by rw [hV5]; exact (Only.refl _ _).setCell (.inl (by simp)) _)
  rw [← hV5]
  clear hV5 x4 y4 g4 hly hlx hlz HY4 HS4 HBw4 HZw4
  have x5 : V5.cell? ⟨w.heap.size, 11, none⟩ = some (.slice (p.aa) (p.aprs).length (p.ak)) := HX5.out.cell 11
  have hlx := HX5.out.lt
  have hlz := HZ5.out
  go_upto_region 7 with (go_at_call 59; (with_reducible refine (HC5.out _ HB5.out).mono ?_); rintro e w6 ⟨⟨v, rfl, hv⟩, hb⟩; obtain ⟨a5, k5, rfl⟩ := own_sl hv; have HA5 := Lib.hid (own_base (B' := w.heap.size + 2) hv hlz); have HY5 := Lib.hid (HX5.out.below hb); have HS5 := Lib.hid (HR5.out.below hb); have HBw5 := Lib.hid (HB5.out.trans (hb.mono HB5.out.size)); have HZw5 := Lib.hid (Nat.le_trans hlz hb.size); have y5 : w6.cell? ⟨w.heap.size, 11, none⟩ = some (.slice (p.aa) (p.aprs).length (p.ak)) := HY5.out.cell 11; have g5 := HY5.out.frozen 11; have hly := HY5.out.lt; have HO5 := Lib.hid (Only.of_below (S := [w.heap.size, w.heap.size + 1]) hb); clear hb hv)
  obtain ⟨V6, hV6⟩ : ∃ V, V = w6.setCell ⟨w.heap.size, 11, none⟩ (.slice a5 (p.aprs).length k5) := ⟨_, rfl⟩
  have HX6 := Lib.hid (show Blk V6 w.heap.size 31 _ by rw [hV6]; exact HY5.out.set 11 _)
  have HR6 := Lib.hid (show Blk V6 (w.heap.size + 1) 31 _ by rw [hV6]; exact HS5.out.other (by show w.heap.size + 1 ≠ w.heap.size; omega) _)
  have HB6 := Lib.hid (show Below w.heap.size w V6 by rw [hV6]; exact HBw5.out.setCell (Nat.le_refl _) _)
  have HZ6 := Lib.hid (show w.heap.size + 2 ≤ V6.heap.size by rw [hV6]; simpa using HZw5.out)
  have HW5 := Lib.hid (show Only [w.heap.size, w.heap.size + 1] w6 V6 by rw [hV6]; exact (Only.refl _ _).setCell (.inl (by simp)) _)
  rw [← hV6]
  clear hV6 x5 y5 g5 hly hlx hlz HY5 HS5 HBw5 HZw5
  have x6 : V6.cell? ⟨w.heap.size, 13, none⟩ = some (.slice (p.da) (p.spds).length (p.dk)) := HX6.out.cell 13
  have hlx := HX6.out.lt
  have hlz := HZ6.out
  go_upto_region 8 with (go_at_call 59; (with_reducible refine (HC6.out _ HB6.out).mono ?_); rintro e w7 ⟨⟨v, rfl, hv⟩, hb⟩; obtain ⟨a6, k6, rfl⟩ := own_sl hv; have HA6 := Lib.hid (own_base (B' := w.heap.size + 2) hv hlz); have HY6 := Lib.hid (HX6.out.below hb); have HS6 := Lib.hid (HR6.out.below hb); have HBw6 := Lib.hid (HB6.out.trans (hb.mono HB6.out.size)); have HZw6 := Lib.hid (Nat.le_trans hlz hb.size); have y6 : w7.cell? ⟨w.heap.size, 13, none⟩ = some (.slice (p.da) (p.spds).length (p.dk)) := HY6.out.cell 13; have g6 := HY6.out.frozen 13; have hly := HY6.out.lt; have HO6 := Lib.hid (Only.of_below (S := [w.heap.size, w.heap.size + 1]) hb); clear hb hv)
  obtain ⟨V7, hV7⟩ : ∃ V, V = w7.setCell ⟨w.heap.size, 13, none⟩ (.slice a6 (p.spds).length k6) := ⟨_, rfl⟩
  have HX7 := Lib.hid (show Blk V7 w.heap.size 31 _ by rw [hV7]; exact HY6.out.set 13 _)
  have HR7 := Lib.hid (show Blk V7 (w.heap.size + 1) 31 _ by rw [hV7]; exact HS6.out.other (by show w.heap.size + 1 ≠ w.heap.size; omega) _)
  have HB7 := Lib.hid (show Below w.heap.size w V7 by rw [hV7]; exact HBw6.out.setCell (Nat.le_refl _) _)
  have HZ7 := Lib.hid (show w.heap.size + 2 ≤ V7.heap.size by rw [hV7]; simpa using HZw6.out)
  have HW6 := Lib.hid (show Only [w.heap.size, w.heap.size + 1] w7 V7 by rw [hV7]; exact (Only.refl _ _).setCell (.inl (by simp)) _)
  rw [← hV7]
  clear hV7 x6 y6 g6 hly hlx hlz HY6 HS6 HBw6 HZw6
  obtain ⟨p', hp'⟩ : ∃ q : Pd, q = { p with la := a0, lk := k0, sa := a1, sk := k1, ta := a2, tk := k2, trms := L', ba := a3, bk := k3, pa := a4, pk := k4, aa := a5, ak := k5, da := a6, dk := k6 } := ⟨_, rfl⟩
  have HX := Lib.hid (show Blk V7 w.heap.size 31 (prow p') by rw [hp']; exact HX7.out)
  have HRp := Lib.hid (show V7.rangeAt w.heap.size 0 (prow p') from fun j v hj => by rw [Nat.zero_add, HX.out.cell]; exact hj)
  have hlx := HX.out.lt
  clear HX0 HX1 HX2 HX3 HX4 HX5 HX6 HX7 HR0 HR1 HR2 HR3 HR4 HR5 HR6
  go_wp2_with (first
    | ((with_reducible refine at_load (ty := 31) ?_); refine load_cells rfl 31 (.tmp 1) rfl w.heap.size 0 rfl (prow p') _ Tryz.underlying31 rfl (by kernel_rfl) HRp.out ?_)
    | ((with_reducible refine at_store (ty := 31) ?_); refine store_blk rfl 31 (.tmp 2) (.tmp 31) rfl (w.heap.size + 1) rfl (prow p') rfl 31 _ HR7.out (by kernel_rfl) rfl (prow_one p') ?_; intro w9 hb9 ho9; have HB9 := Lib.hid hb9; have HO9 := Lib.hid ho9; clear hb9 ho9))
  have o7 := HO9.out.mono (T := [w.heap.size, w.heap.size + 1]) (by simp)
  have o6 := HW6.out.trans o7
  have o5 := HW5.out.trans (HO6.out.trans o6)
  have o4 := HW4.out.trans (HO5.out.trans o5)
  have o3 := HW3.out.trans (HO4.out.trans o4)
  have o2 := HW2.out.trans (HO3.out.trans o3)
  have o1 := HW1.out.trans (HO2.out.trans o2)
  have o0 := HW0.out.trans (HO1.out.trans o1)
  have hS : ∀ g ∈ [w.heap.size, w.heap.size + 1], g < w.heap.size + 2 := by simp
  have hA := HPA.out
  have r0 := own_parts kcs_len (by decide) (own_only HA0.out o0 hS)
  have r1 := own_parts kcs_len (by decide) (own_only HA1.out o1 hS)
  have r2 := own_parts Lb.trcs_len (by decide) (own_only HA2.out o2 hS)
  have r3 := own_parts ocs_len (by decide) (own_only HA3.out o3 hS)
  have r4 := own_parts pcs_len (by decide) (own_only HA4.out o4 hS)
  have r5 := own_parts kcs_len (by decide) (own_only HA5.out o5 hS)
  have r6 := own_parts kcs_len (by decide) (own_only HA6.out o6 hS)
  have hll : L'.length = p.trms.length := by
    have h9 := congrArg List.length HM.out
    rwa [List.length_map, List.length_map] at h9
  have hvl : ∀ t ∈ L', t.vals.length ≤ maxLen := fun t ht => by
    have h9 : trmE t ∈ p.trms.map trmE := by rw [← HM.out]; exact List.mem_map_of_mem ht
    obtain ⟨u, hu, e⟩ := List.mem_map.1 h9
    have e2 : (trmE u).vals = (trmE t).vals := by rw [e]
    have e2 : u.vals = t.vals := e2
    rw [← e2]
    exact (hA.trmA u hu).2
  refine bodyPost_ret (v := .agg (prow p').toArray) (results_blk Tryz.results41 rfl HB9.out Tryz.underlying31 rfl (by kernel_rfl)) rfl ⟨⟨p', rfl, ?_, ?_, ?_⟩, ?_⟩
  · rw [hp']
    unfold podE
    dsimp only
    rw [HM.out]
  · rw [hp']
    exact ⟨⟨r0.1, r1.1, r2.1, fun t ht => ⟨(own_parts scs_len (by decide) (own_only (HVo.out t ht) o2 hS)).1, hvl t ht⟩, r3.1, r4.1, r5.1, r6.1, hA.ll, hA.sl, (by show L'.length ≤ maxLen; rw [hll]; exact hA.tl), hA.bl, hA.pl, hA.al, hA.dl⟩, r0.2, r1.2, r2.2, r3.2, r4.2, r5.2, r6.2⟩
  · rw [hp']
    have hle : w.heap.size ≤ w.heap.size + 2 := by omega
    exact ⟨fun q o e => Nat.le_trans hle (own_far HA0.out q o e), fun q o e => Nat.le_trans hle (own_far HA1.out q o e), fun q o e => Nat.le_trans hle (own_far HA2.out q o e), fun t ht q o e => Nat.le_trans hle (own_far (HVo.out t ht) q o e), fun q o e => Nat.le_trans hle (own_far HA3.out q o e), fun q o e => Nat.le_trans hle (own_far HA4.out q o e), fun q o e => Nat.le_trans hle (own_far HA5.out q o e), fun q o e => Nat.le_trans hle (own_far HA6.out q o e)⟩
  · exact o7.below HB7.out HB7.out.size (by simp)
end Go.Proofs.YthbpnfpalcgfeaaGreat
