/-
  Fit in plain words: what is feasible stays so, with fewer pods, and with one more where it can be.
-/
import Derived.Test.YthbpnfpalcgfeaaFtB
import Derived.Test.YthbpnfpalcgfeaaSLp
namespace Go.Proofs.Ythbpnfpalcgfeaa
open Go.RowKit
set_option linter.unusedVariables false
set_option linter.unusedSimpArgs false

/-- What the pods on a machine need, one quantity. -/
def sm (f : Pd → Int) (nm : ByteArray) : List Bd → Int
  | [] => 0
  | b :: l => (if b.on = nm then f b.p else 0) + sm f nm l
theorem sm_pos (f : Pd → Int) (nm : ByteArray) : ∀ (l : List Bd), (∀ b ∈ l, 0 ≤ f b.p) → 0 ≤ sm f nm l
  | [], _ => Int.le_refl _
  | b :: l, h => by
    have h1 := sm_pos f nm l fun x hx => h x (List.mem_cons_of_mem _ hx)
    have h2 := h b List.mem_cons_self
    unfold sm
    split <;> omega
theorem sm_app (f : Pd → Int) (nm : ByteArray) : ∀ (l k : List Bd), sm f nm (l ++ k) = sm f nm l + sm f nm k
  | [], k => by show sm f nm k = 0 + sm f nm k; omega
  | b :: l, k => by
    have h := sm_app f nm l k
    show (if b.on = nm then f b.p else 0) + sm f nm (l ++ k) = (if b.on = nm then f b.p else 0) + sm f nm l + sm f nm k
    omega
theorem sm_oth (f : Pd → Int) (nm x : ByteArray) : ∀ (l : List Bd), (∀ b ∈ l, b.p.nm ≠ x) → sm f nm (othL l nm x) = sm f nm l
  | [], _ => rfl
  | b :: l, h => by
    have ih := sm_oth f nm x l fun y hy => h y (List.mem_cons_of_mem _ hy)
    have hb := h b List.mem_cons_self
    unfold othL at ih ⊢
    rw [List.filter_cons]
    unfold othB at ih ⊢
    by_cases ho : b.on = nm
    · rw [decide_eq_true ho, decide_eq_false hb, if_pos (by decide)]
      show (if b.on = nm then f b.p else 0) + sm f nm _ = (if b.on = nm then f b.p else 0) + sm f nm l
      rw [ih]
    · rw [decide_eq_false ho, if_neg (by simp), ih]
      show sm f nm l = (if b.on = nm then f b.p else 0) + sm f nm l
      rw [if_neg ho]
      omega
theorem sm_split (f : Pd → Int) (nm : ByteArray) : ∀ (l : List Bd), l.Pairwise (fun x y => x.p.nm ≠ y.p.nm) → ∀ b ∈ l, b.on = nm → sm f nm l = sm f nm (othL l nm b.p.nm) + f b.p
  | [], _, b, hb, _ => by cases hb
  | x :: l, hp, b, hb, ho => by
    rw [List.pairwise_cons] at hp
    rcases List.mem_cons.1 hb with rfl | hb
    · have e : othL (b :: l) nm b.p.nm = othL l nm b.p.nm := by
        unfold othL
        rw [List.filter_cons]
        have : othB nm b.p.nm b = false := by unfold othB; rw [decide_eq_true rfl]; simp
        rw [this, if_neg Bool.false_ne_true]
      rw [e, sm_oth f nm b.p.nm l fun y hy => (hp.1 y hy).symm]
      show (if b.on = nm then f b.p else 0) + sm f nm l = _
      rw [if_pos ho]
      omega
    · have ih := sm_split f nm l hp.2 b hb ho
      have hne := hp.1 b hb
      unfold othL at ih ⊢
      rw [List.filter_cons]
      by_cases hx : x.on = nm
      · have : othB nm b.p.nm x = true := by unfold othB; rw [decide_eq_true hx, decide_eq_false hne]; rfl
        rw [this, if_pos rfl]
        show (if x.on = nm then f x.p else 0) + sm f nm l = (if x.on = nm then f x.p else 0) + sm f nm _ + f b.p
        rw [ih]
        omega
      · have : othB nm b.p.nm x = false := by unfold othB; rw [decide_eq_false hx]; rfl
        rw [this, if_neg Bool.false_ne_true, ← ih]
        show (if x.on = nm then f x.p else 0) + sm f nm l = _
        rw [if_neg hx]
        omega
def smR (nm : ByteArray) (l : List Bd) (r : R5) : R5 := ⟨r.r0 + sm Pd.n0 nm l, r.r1 + sm Pd.n1 nm l, r.r2 + sm Pd.n2 nm l, r.r3 + sm Pd.n3 nm l, r.r4 + sm Pd.n4 nm l⟩
def mxR : R5 := ⟨1125899906842624, 1125899906842624, 1125899906842624, 1125899906842624, 1125899906842624⟩
theorem smR_cons (nm : ByteArray) (b : Bd) (l : List Bd) (r : R5) : smR nm (b :: l) r = if b.on = nm then smR nm l ⟨r.r0 + b.p.n0, r.r1 + b.p.n1, r.r2 + b.p.n2, r.r3 + b.p.n3, r.r4 + b.p.n4⟩ else smR nm l r := by
  unfold smR
  show R5.mk (r.r0 + ((if b.on = nm then b.p.n0 else 0) + sm Pd.n0 nm l)) (r.r1 + ((if b.on = nm then b.p.n1 else 0) + sm Pd.n1 nm l)) (r.r2 + ((if b.on = nm then b.p.n2 else 0) + sm Pd.n2 nm l)) (r.r3 + ((if b.on = nm then b.p.n3 else 0) + sm Pd.n3 nm l)) (r.r4 + ((if b.on = nm then b.p.n4 else 0) + sm Pd.n4 nm l)) = _
  split
  · dsimp only
    congr 1 <;> omega
  · congr 1 <;> omega
theorem usB_cons (nm : ByteArray) (b : Bd) (l : List Bd) (r : R5) : usB nm (b :: l) 0 r = if b.on = nm then (if rtP b.p = true then usB nm l (addEP r b.p) (addP r b.p) else (12, R5.z)) else usB nm l 0 r := by
  show (if b.on = nm then (if rtP b.p = true then (if (0 : Int) = 0 then usB nm l (addEP r b.p) (addP r b.p) else usB nm l 0 r) else (12, R5.z)) else usB nm l 0 r) = _
  rw [if_pos rfl]
/-- What they need together is the sum, if that is not too much. -/
theorem usB_sum (nm : ByteArray) : ∀ (l : List Bd) (r : R5), (usB nm l 0 r).1 = 0 → (usB nm l 0 r).2 = smR nm l r
  | [], r, h => by unfold smR; show r = _; cases r; simp [sm]
  | b :: l, r, h => by
    rw [usB_cons] at h ⊢
    rw [smR_cons]
    by_cases ho : b.on = nm
    · rw [if_pos ho] at h ⊢
      rw [if_pos ho]
      by_cases hr : rtP b.p = true
      · rw [if_pos hr] at h ⊢
        by_cases hz : addEP r b.p = 0
        · obtain ⟨_, _, e, _⟩ := addEP_zero hz
          rw [hz] at h ⊢
          rw [e] at h ⊢
          exact usB_sum nm l _ h
        · exact absurd h (usB_err nm l _ _ hz)
      · rw [if_neg hr] at h
        cases h
    · rw [if_neg ho] at h ⊢
      rw [if_neg ho]
      exact usB_sum nm l r h
theorem rtP_iff {p : Pd} (h : rtP p = true) : (0 ≤ p.n0 ∧ p.n0 ≤ 1125899906842624) ∧ (0 ≤ p.n1 ∧ p.n1 ≤ 1125899906842624) ∧ (0 ≤ p.n2 ∧ p.n2 ≤ 1125899906842624) ∧ (0 ≤ p.n3 ∧ p.n3 ≤ 1125899906842624) ∧ (0 ≤ p.n4 ∧ p.n4 ≤ 1125899906842624) := (rtB_iff _ _ _ _ _).1 h
theorem usB_ok (nm : ByteArray) : ∀ (l : List Bd) (r : R5), (∀ b ∈ l, rtP b.p = true) → rt5 r = true → leR (smR nm l r) mxR → (usB nm l 0 r).1 = 0
  | [], r, _, _, _ => rfl
  | b :: l, r, hl, hr, hs => by
    have hl' : ∀ x ∈ l, rtP x.p = true := fun x hx => hl x (List.mem_cons_of_mem _ hx)
    have hb := hl b List.mem_cons_self
    have hb' := rtP_iff hb
    have p0 := sm_pos Pd.n0 nm l fun x hx => (rtP_iff (hl' x hx)).1.1
    have p1 := sm_pos Pd.n1 nm l fun x hx => (rtP_iff (hl' x hx)).2.1.1
    have p2 := sm_pos Pd.n2 nm l fun x hx => (rtP_iff (hl' x hx)).2.2.1.1
    have p3 := sm_pos Pd.n3 nm l fun x hx => (rtP_iff (hl' x hx)).2.2.2.1.1
    have p4 := sm_pos Pd.n4 nm l fun x hx => (rtP_iff (hl' x hx)).2.2.2.2.1
    have hr' := (rtB_iff _ _ _ _ _).1 hr
    rw [usB_cons]
    rw [smR_cons] at hs
    by_cases ho : b.on = nm
    · rw [if_pos ho] at hs ⊢
      rw [if_pos hb]
      have hs' := hs
      unfold leR smR mxR at hs'
      dsimp only at hs'
      have hz : addEP r b.p = 0 := by
        unfold addEP Rs.addE
        rw [if_pos ⟨hr, hb⟩, if_pos (by omega)]
      obtain ⟨_, _, e, _⟩ := addEP_zero hz
      rw [hz, e]
      refine usB_ok nm l _ hl' ?_ hs
      unfold rt5
      rw [rtB_iff]
      dsimp only
      omega
    · rw [if_neg ho] at hs ⊢
      exact usB_ok nm l r hl' hr hs
/-- Where a pod has room: each quantity that it needs, with the others', is there. -/
theorem room_says {m : Mac} {bs : List Bd} {p : Pd} (hm : rt5 (hasM m) = true) (h : suitS m bs p = 0) (h3 : p.n3 = 1) :
    (p.n0 ≤ 0 ∨ sm Pd.n0 m.nm (othL bs m.nm p.nm) + p.n0 ≤ m.r0) ∧ (p.n1 ≤ 0 ∨ sm Pd.n1 m.nm (othL bs m.nm p.nm) + p.n1 ≤ m.r1) ∧ (p.n2 ≤ 0 ∨ sm Pd.n2 m.nm (othL bs m.nm p.nm) + p.n2 ≤ m.r2) ∧ (p.n3 ≤ 0 ∨ sm Pd.n3 m.nm (othL bs m.nm p.nm) + p.n3 ≤ m.r3) ∧ (p.n4 ≤ 0 ∨ sm Pd.n4 m.nm (othL bs m.nm p.nm) + p.n4 ≤ m.r4) := by
  obtain ⟨g1, g2, g3, g4, g5, g6⟩ := suit_zero h h3
  have hs := usB_sum m.nm (othL bs m.nm p.nm) R5.z g6
  have hl : leftY m (othL bs m.nm p.nm) = _ := (if_pos g6).trans (left_plain hm (usedY_right g6))
  have hu : (usedY (othL bs m.nm p.nm) m.nm).2 = smR m.nm (othL bs m.nm p.nm) R5.z := hs
  rw [hl, hu] at g4
  unfold leR needP smR R5.z hasM minI at g4
  dsimp only at g4
  obtain ⟨q0, q1, q2, q3, q4⟩ := g4
  refine ⟨?_, ?_, ?_, ?_, ?_⟩
  · clear q1 q2 q3 q4; split at q0 <;> omega
  · clear q0 q2 q3 q4; split at q1 <;> omega
  · clear q0 q1 q3 q4; split at q2 <;> omega
  · clear q0 q1 q2 q4; split at q3 <;> omega
  · clear q0 q1 q2 q3; split at q4 <;> omega
/-- If each quantity is there with the others', it has room. -/
theorem room_has {m : Mac} {bs : List Bd} {p : Pd} (hm : rt5 (hasM m) = true) (hp : rtP p = true) (hb : ∀ b ∈ bs, rtP b.p = true)
    (h0 : sm Pd.n0 m.nm (othL bs m.nm p.nm) + p.n0 ≤ m.r0) (h1 : sm Pd.n1 m.nm (othL bs m.nm p.nm) + p.n1 ≤ m.r1) (h2 : sm Pd.n2 m.nm (othL bs m.nm p.nm) + p.n2 ≤ m.r2) (h3 : sm Pd.n3 m.nm (othL bs m.nm p.nm) + p.n3 ≤ m.r3) (h4 : sm Pd.n4 m.nm (othL bs m.nm p.nm) + p.n4 ≤ m.r4)
    (hs : shareQ (othL bs m.nm p.nm) p.prts = false) : roomS m bs p = 0 := by
  have ho : ∀ b ∈ othL bs m.nm p.nm, rtP b.p = true := fun b h => hb b (List.mem_filter.1 h).1
  have p0 := sm_pos Pd.n0 m.nm (othL bs m.nm p.nm) fun x hx => (rtP_iff (ho x hx)).1.1
  have p1 := sm_pos Pd.n1 m.nm (othL bs m.nm p.nm) fun x hx => (rtP_iff (ho x hx)).2.1.1
  have p2 := sm_pos Pd.n2 m.nm (othL bs m.nm p.nm) fun x hx => (rtP_iff (ho x hx)).2.2.1.1
  have p3 := sm_pos Pd.n3 m.nm (othL bs m.nm p.nm) fun x hx => (rtP_iff (ho x hx)).2.2.2.1.1
  have p4 := sm_pos Pd.n4 m.nm (othL bs m.nm p.nm) fun x hx => (rtP_iff (ho x hx)).2.2.2.2.1
  have hp' := rtP_iff hp
  have hm' := (rtB_iff _ _ _ _ _).1 hm
  unfold hasM at hm'
  dsimp only at hm'
  have g6 : (usB m.nm (othL bs m.nm p.nm) 0 R5.z).1 = 0 := usB_ok m.nm _ R5.z ho (by decide) (by unfold leR smR mxR R5.z; dsimp only; omega)
  have hu : (usedY (othL bs m.nm p.nm) m.nm).2 = smR m.nm (othL bs m.nm p.nm) R5.z := usB_sum m.nm _ R5.z g6
  have hl : leftY m (othL bs m.nm p.nm) = _ := (if_pos (show (usedY (othL bs m.nm p.nm) m.nm).1 = 0 from g6)).trans (left_plain hm (usedY_right g6))
  rw [hu] at hl
  unfold smR R5.z hasM at hl
  dsimp only at hl
  have e0 : minI m.r0 (0 + sm Pd.n0 m.nm (othL bs m.nm p.nm)) = sm Pd.n0 m.nm (othL bs m.nm p.nm) := by unfold minI; split <;> omega
  have e1 : minI m.r1 (0 + sm Pd.n1 m.nm (othL bs m.nm p.nm)) = sm Pd.n1 m.nm (othL bs m.nm p.nm) := by unfold minI; split <;> omega
  have e2 : minI m.r2 (0 + sm Pd.n2 m.nm (othL bs m.nm p.nm)) = sm Pd.n2 m.nm (othL bs m.nm p.nm) := by unfold minI; split <;> omega
  have e3 : minI m.r3 (0 + sm Pd.n3 m.nm (othL bs m.nm p.nm)) = sm Pd.n3 m.nm (othL bs m.nm p.nm) := by unfold minI; split <;> omega
  have e4 : minI m.r4 (0 + sm Pd.n4 m.nm (othL bs m.nm p.nm)) = sm Pd.n4 m.nm (othL bs m.nm p.nm) := by unfold minI; split <;> omega
  rw [e0, e1, e2, e3, e4] at hl
  refine room_of hp ?_ ?_ hs
  · rw [hl]
    unfold rt5
    rw [rtB_iff]
    dsimp only
    omega
  · rw [hl]
    unfold leR needP
    dsimp only
    omega
theorem sameZ_symm (ms : List Mac) (a b : ByteArray) : sameZ ms a b = sameZ ms b a := by
  unfold sameZ
  rw [show decide (zV ms b = zV ms a) = decide (zV ms a = zV ms b) from decide_eq_decide.2 ⟨Eq.symm, Eq.symm⟩]
  cases zB ms a <;> cases zB ms b <;> rfl
theorem away_symm (ms : List Mac) (A : List Lab) (wd : Bool) (L : List Lab) (a b : ByteArray) : awayB ms A wd L a b = awayB ms A wd L b a := by
  unfold awayB
  rw [sameZ_symm ms a b, show decide (a = b) = decide (b = a) from decide_eq_decide.2 ⟨Eq.symm, Eq.symm⟩]
theorem why_zero {ms : List Mac} {bs : List Bd} {p : Pd} {on : ByteArray} (h : whyF ms bs p on = 0) : ∃ m, mOf ms on = some m ∧ suitS m bs p = 0 ∧ nearB ms bs p on = false ∧ manyB ms bs p on = false := by
  unfold whyF at h
  cases hm : mOf ms on with
  | none => rw [hm] at h; cases h
  | some m =>
    rw [hm] at h
    have h : (if suitS m bs p = 0 then apartW ms bs p on else suitS m bs p) = 0 := h
    split at h
    · rename_i hs
      refine ⟨m, rfl, hs, ?_⟩
      unfold apartW at h
      cases hn : nearB ms bs p on
      · cases hy : manyB ms bs p on
        · exact ⟨rfl, rfl⟩
        · rw [hn, hy] at h
          cases h
      · rw [hn] at h
        cases h
    · rename_i hs
      exact absurd h hs
theorem zero_why {ms : List Mac} {bs : List Bd} {p : Pd} {on : ByteArray} {m : Mac} (h1 : mOf ms on = some m) (h2 : suitS m bs p = 0) (h3 : nearB ms bs p on = false) (h4 : manyB ms bs p on = false) : whyF ms bs p on = 0 := by
  unfold whyF
  rw [h1]
  show (if suitS m bs p = 0 then apartW ms bs p on else suitS m bs p) = 0
  rw [if_pos h2]
  unfold apartW
  rw [h3, h4]
  rfl
theorem mOf_nm {ms : List Mac} {x : ByteArray} {m : Mac} (h : mOf ms x = some m) : m.nm = x ∧ m ∈ ms := by
  unfold mOf at h
  exact ⟨of_decide_eq_true (List.find?_some (p := fun m : Mac => decide (m.nm = x)) h), List.mem_of_find?_eq_some h⟩
theorem many_no {ms : List Mac} {bs : List Bd} {p : Pd} (h : p.spds.length = 0) (on : ByteArray) : manyB ms bs p on = false := by
  unfold manyB
  rw [if_pos h]
/-- Of a yard that is right: each machine's quantities, each pod's. -/
structure RY (ms : List Mac) (bs : List Bd) : Prop where
  hm : ∀ m ∈ ms, rt5 (hasM m) = true
  hb : ∀ b ∈ bs, rtP b.p = true ∧ b.p.n3 = 1
  nd : bs.Pairwise fun x y => x.p.nm ≠ y.p.nm
/-- With fewer pods it stays feasible. -/
theorem feas_fewer {ms : List Mac} {bs bs' : List Bd} (hr : RY ms bs) (h : feasF ms bs = true) (hs : ∀ b ∈ bs, b.p.spds.length = 0) (hsub : bs'.Sublist bs) : feasF ms bs' = true := by
  unfold feasF at h ⊢
  rw [List.all_eq_true] at h ⊢
  intro b hb
  have hb2 := hsub.subset hb
  have h1 := h b hb2
  unfold feasB at h1 ⊢
  rw [Bool.or_eq_true, decide_eq_true_eq, decide_eq_true_eq] at h1 ⊢
  rcases h1 with h1 | h1
  · exact .inl h1
  · right
    obtain ⟨m, g1, g2, g3, g4⟩ := why_zero h1
    refine zero_why g1 (suit_fewer (hr.hm m (mOf_nm g1).2) g2 (hr.hb b hb2).2 hsub) ?_ (many_no (hs b hb2) _)
    unfold nearB at g3 ⊢
    rw [g1] at g3 ⊢
    have g3 : bs.any (nearOf ms b.p b.on) = false := g3
    show bs'.any (nearOf ms b.p b.on) = false
    rw [List.any_eq_false] at g3 ⊢
    exact fun x hx => g3 x (hsub.subset hx)
theorem oth_self (bs : List Bd) (p : Pd) (on mm : ByteArray) : othL (bs ++ [⟨p, on⟩]) mm p.nm = othL bs mm p.nm := by
  unfold othL
  rw [List.filter_append]
  have : List.filter (othB mm p.nm) [(⟨p, on⟩ : Bd)] = [] := by
    rw [List.filter_cons]
    have : othB mm p.nm ⟨p, on⟩ = false := by unfold othB; rw [decide_eq_true rfl]; simp
    rw [this, if_neg Bool.false_ne_true]
    rfl
  rw [this, List.append_nil]
theorem why_self {ms : List Mac} {bs : List Bd} {p : Pd} {on : ByteArray} : whyF ms (bs ++ [⟨p, on⟩]) p on = whyF ms bs p on := by
  have hm : matB ⟨p, on⟩ p = false := by unfold matB; rw [decide_eq_true (show (⟨p, on⟩ : Bd).p.nm = p.nm from rfl)]; simp
  have hs : ∀ m, suitS m (bs ++ [⟨p, on⟩]) p = suitS m bs p := fun m => by unfold suitS roomS; rw [oth_self]
  have hn : nearB ms (bs ++ [⟨p, on⟩]) p on = nearB ms bs p on := by
    unfold nearB
    rw [List.any_append]
    have : List.any [(⟨p, on⟩ : Bd)] (nearOf ms p on) = false := by
      rw [List.any_cons]
      unfold nearOf
      rw [hm]
      rfl
    rw [this, Bool.or_false]
  have hc : onCnt (bs ++ [⟨p, on⟩]) p = onCnt bs p := by
    funext x
    unfold onCnt
    rw [List.filter_append]
    have : List.filter (onQ p x) [(⟨p, on⟩ : Bd)] = [] := by
      rw [List.filter_cons]
      have : onQ p x ⟨p, on⟩ = false := by unfold onQ onP; rw [hm]; rfl
      rw [this, if_neg Bool.false_ne_true]
      rfl
    rw [this, List.append_nil]
  have hz : zCnt ms (bs ++ [⟨p, on⟩]) p = zCnt ms bs p := by
    funext z
    unfold zCnt
    rw [hc]
  have hy : manyB ms (bs ++ [⟨p, on⟩]) p on = manyB ms bs p on := by
    unfold manyB zNum numsC
    rw [hz]
  unfold whyF apartW
  rw [hn, hy]
  split
  · rfl
  · rw [hs]
theorem ports_symm {a b : Bd} (h : prtsIn a.p.prts b = false) : prtsIn b.p.prts a = false := by
  unfold prtsIn prtIn at h ⊢
  rw [List.any_eq_false] at h ⊢
  intro x hx hc
  obtain ⟨y, hy, e⟩ := List.any_eq_true.1 hc
  refine h y hy (List.any_eq_true.2 ⟨x, hx, ?_⟩)
  unfold Lb.intB at e ⊢
  rw [beq_iff_eq] at e ⊢
  exact e.symm
set_option maxHeartbeats 2000000 in
/-- With a pod more, where it can be, it stays feasible. -/
theorem feas_more {ms : List Mac} {bs : List Bd} {p : Pd} {on : ByteArray} (hr : RY ms bs) (hp : rtP p = true ∧ p.n3 = 1) (h : feasF ms bs = true) (hs : ∀ b ∈ bs, b.p.spds.length = 0 ∧ b.p.nm ≠ p.nm) (hw : whyF ms bs p on = 0) (hon : on ≠ emp) : feasF ms (bs ++ [⟨p, on⟩]) = true := by
  obtain ⟨m, w1, w2, w3, w4⟩ := why_zero hw
  obtain ⟨w5, w6⟩ := mOf_nm w1
  have hm := hr.hm m w6
  have hall := h
  unfold feasF at hall ⊢
  rw [List.all_eq_true] at hall ⊢
  intro b hb
  unfold feasB
  rw [Bool.or_eq_true, decide_eq_true_eq, decide_eq_true_eq]
  rcases List.mem_append.1 hb with hb | hb
  · have h1 := hall b hb
    unfold feasB at h1
    rw [Bool.or_eq_true, decide_eq_true_eq, decide_eq_true_eq] at h1
    rcases h1 with h1 | h1
    · exact .inl h1
    · by_cases hbe : b.on = emp
      · exact .inl hbe
      right
      obtain ⟨mb, g1, g2, g3, g4⟩ := why_zero h1
      obtain ⟨g5, g6⟩ := mOf_nm g1
      obtain ⟨hb0, hb1⟩ := hs b hb
      have hnear : nearB ms (bs ++ [⟨p, on⟩]) b.p b.on = false := by
        unfold nearB at g3 w3 ⊢
        rw [g1] at g3 ⊢
        rw [w1] at w3
        have g3 : bs.any (nearOf ms b.p b.on) = false := g3
        have w3 : bs.any (nearOf ms p on) = false := w3
        show (bs ++ [(⟨p, on⟩ : Bd)]).any (nearOf ms b.p b.on) = false
        rw [List.any_append, g3]
        rw [List.any_eq_false] at w3
        have w3 := w3 b hb
        rw [Bool.not_eq_true] at w3
        show (nearOf ms b.p b.on ⟨p, on⟩ || false) = false
        rw [Bool.or_false]
        unfold nearOf matB at w3 ⊢
        rw [decide_eq_false hbe, decide_eq_false hb1] at w3
        rw [decide_eq_false (show ¬ (⟨p, on⟩ : Bd).on = emp from hon), decide_eq_false (show ¬ (⟨p, on⟩ : Bd).p.nm = b.p.nm from fun e => hb1 e.symm)]
        have w3 : (awayB ms p.aprs p.wd b.p.labs on b.on || awayB ms b.p.aprs b.p.wd p.labs on b.on) = false := w3
        show (awayB ms b.p.aprs b.p.wd p.labs b.on on || awayB ms p.aprs p.wd b.p.labs b.on on) = false
        rw [away_symm ms b.p.aprs, away_symm ms p.aprs, Bool.or_comm]
        exact w3
      refine zero_why g1 ?_ hnear (many_no hb0 _)
      by_cases ho : b.on = on
      · have hmm : mb = m := by rw [ho, w1] at g1; exact (Option.some.inj g1).symm
        subst hmm
        have hon' : b.on = mb.nm := g5.symm
        obtain ⟨k1, k2, k3, k4, k5, k6⟩ := suit_zero g2 (hr.hb b hb).2
        refine suit_of k1 ?_
        have e : othL (bs ++ [⟨p, on⟩]) mb.nm b.p.nm = othL bs mb.nm b.p.nm ++ [⟨p, on⟩] := by
          unfold othL
          rw [List.filter_append]
          congr 1
          rw [List.filter_cons]
          have : othB mb.nm b.p.nm ⟨p, on⟩ = true := by
            unfold othB
            rw [decide_eq_true (show (⟨p, on⟩ : Bd).on = mb.nm from w5.symm), decide_eq_false (show ¬ (⟨p, on⟩ : Bd).p.nm = b.p.nm from fun e => hb1 e.symm)]
            rfl
          rw [this, if_pos rfl]
          rfl
        have hno : ∀ x ∈ bs, x.p.nm ≠ p.nm := fun x hx => (hs x hx).2
        have rp := room_says hm w2 hp.2
        have tot : ∀ (f : Pd → Int), sm f mb.nm bs = sm f mb.nm (othL bs mb.nm b.p.nm) + f b.p := fun f => sm_split f mb.nm bs hr.nd b hb hon'
        have oth : ∀ (f : Pd → Int), sm f mb.nm (othL bs mb.nm p.nm) = sm f mb.nm bs := fun f => sm_oth f mb.nm p.nm bs hno
        have more : ∀ (f : Pd → Int), sm f mb.nm (othL (bs ++ [⟨p, on⟩]) mb.nm b.p.nm) = sm f mb.nm (othL bs mb.nm b.p.nm) + f p := fun f => by
          rw [e, sm_app]
          show _ + ((if on = mb.nm then f p else 0) + 0) = _
          rw [if_pos w5.symm]
          omega
        -- what all of them need is there
        have all : ∀ (f : Pd → Int) (R : Int), (∀ x ∈ bs, 0 ≤ f x.p) → 0 ≤ R → (∀ x ∈ bs, x.on = mb.nm → f x.p ≤ 0 ∨ sm f mb.nm (othL bs mb.nm x.p.nm) + f x.p ≤ R) → sm f mb.nm bs ≤ R := fun f R hpos hR hx => by
          by_cases hz : ∃ x ∈ bs, x.on = mb.nm ∧ 0 < f x.p
          · obtain ⟨x, hx1, hx2, hx3⟩ := hz
            rcases hx x hx1 hx2 with h9 | h9
            · omega
            · rw [sm_split f mb.nm bs hr.nd x hx1 hx2]
              exact h9
          · have : ∀ l : List Bd, (∀ x ∈ l, x ∈ bs) → sm f mb.nm l ≤ 0 := by
              intro l
              induction l with
              | nil => intro _; exact Int.le_refl _
              | cons y l ih =>
                intro hl
                have h1 := ih fun x hx => hl x (List.mem_cons_of_mem _ hx)
                unfold sm
                split
                · rename_i hy
                  have : ¬ 0 < f y.p := fun h9 => hz ⟨y, hl y List.mem_cons_self, hy, h9⟩
                  omega
                · omega
            have := this bs fun x hx => hx
            omega
        have says : ∀ x ∈ bs, x.on = mb.nm → suitS mb bs x.p = 0 := fun x hx hxo => by
          have h9 := hall x hx
          unfold feasB at h9
          rw [Bool.or_eq_true, decide_eq_true_eq, decide_eq_true_eq] at h9
          have h9 : whyF ms bs x.p x.on = 0 := by
            rcases h9 with h9 | h9
            · exact absurd (hxo.symm.trans h9) (by rw [w5]; exact hon)
            · exact h9
          obtain ⟨mx, q1, q2, _, _⟩ := why_zero h9
          have : mx = mb := by rw [hxo, w5, w1] at q1; exact (Option.some.inj q1).symm
          subst this
          exact q2
        have hm' := (rtB_iff _ _ _ _ _).1 hm
        unfold hasM at hm'
        dsimp only at hm'
        have a0 := all Pd.n0 mb.r0 (fun x hx => (rtP_iff (hr.hb x hx).1).1.1) hm'.1.1 (fun x hx hxo => (room_says hm (says x hx hxo) (hr.hb x hx).2).1)
        have a1 := all Pd.n1 mb.r1 (fun x hx => (rtP_iff (hr.hb x hx).1).2.1.1) hm'.2.1.1 (fun x hx hxo => (room_says hm (says x hx hxo) (hr.hb x hx).2).2.1)
        have a2 := all Pd.n2 mb.r2 (fun x hx => (rtP_iff (hr.hb x hx).1).2.2.1.1) hm'.2.2.1.1 (fun x hx hxo => (room_says hm (says x hx hxo) (hr.hb x hx).2).2.2.1)
        have a3 := all Pd.n3 mb.r3 (fun x hx => (rtP_iff (hr.hb x hx).1).2.2.2.1.1) hm'.2.2.2.1.1 (fun x hx hxo => (room_says hm (says x hx hxo) (hr.hb x hx).2).2.2.2.1)
        have a4 := all Pd.n4 mb.r4 (fun x hx => (rtP_iff (hr.hb x hx).1).2.2.2.2.1) hm'.2.2.2.2.1 (fun x hx hxo => (room_says hm (says x hx hxo) (hr.hb x hx).2).2.2.2.2)
        rw [oth, oth, oth, oth, oth] at rp
        have hpp := rtP_iff hp.1
        refine room_has hm (hr.hb b hb).1 (fun x hx => ?_) ?_ ?_ ?_ ?_ ?_ ?_
        · rcases List.mem_append.1 hx with hx | hx
          · exact (hr.hb x hx).1
          · obtain rfl : x = ⟨p, on⟩ := by simpa using hx
            exact hp.1
        · have t := tot Pd.n0
          rw [more]
          omega
        · have t := tot Pd.n1
          rw [more]
          omega
        · have t := tot Pd.n2
          rw [more]
          omega
        · have t := tot Pd.n3
          rw [more]
          omega
        · have t := tot Pd.n4
          rw [more]
          omega
        · rw [e]
          obtain ⟨_, _, _, _, wshare, _⟩ := suit_zero w2 hp.2
          unfold shareQ at k5 wshare ⊢
          rw [List.any_append, k5]
          rw [List.any_eq_false] at wshare
          have hbo : b ∈ othL bs mb.nm p.nm := by
            unfold othL
            rw [List.mem_filter]
            refine ⟨hb, ?_⟩
            unfold othB
            rw [decide_eq_true hon', decide_eq_false hb1]
            rfl
          have h9 := wshare b hbo
          rw [Bool.not_eq_true] at h9
          have h8 := ports_symm (a := ⟨p, on⟩) (b := b) h9
          show (prtsIn b.p.prts ⟨p, on⟩ || false) = false
          rw [h8]
          rfl
      · have e : othL (bs ++ [⟨p, on⟩]) mb.nm b.p.nm = othL bs mb.nm b.p.nm := by
          unfold othL
          rw [List.filter_append]
          have : List.filter (othB mb.nm b.p.nm) [(⟨p, on⟩ : Bd)] = [] := by
            rw [List.filter_cons]
            have : othB mb.nm b.p.nm ⟨p, on⟩ = false := by
              unfold othB
              rw [decide_eq_false (show ¬ (⟨p, on⟩ : Bd).on = mb.nm from fun e9 => ho (by rw [← g5]; exact e9.symm))]
              rfl
            rw [this, if_neg Bool.false_ne_true]
            rfl
          rw [this, List.append_nil]
        unfold suitS roomS at g2 ⊢
        rw [e]
        exact g2
  · obtain rfl : b = ⟨p, on⟩ := by simpa using hb
    exact .inr ((why_self (ms := ms) (bs := bs) (p := p) (on := on)).trans hw)
theorem nodup_of {N : List ByteArray} (h : twiceN N = false) : N.Pairwise fun x y => x ≠ y := by
  rw [List.pairwise_iff_getElem]
  intro i j hi hj hij e
  have h1 := find_once h (List.getElem?_eq_getElem hi)
  have h2 := find_once h (List.getElem?_eq_getElem hj)
  rw [e] at h1
  omega
theorem right_yard {ms : List Mac} {bs : List Bd} (h : checkY ms bs = 0) : RY ms bs := by
  have hc := check_zero h
  unfold checkY at h
  split at h
  · omega
  · split at h
    · omega
    · rename_i h2
      split at h
      · omega
      · rename_i h3
        have h2' : ms.all okM = true ∧ bs.all okBd = true := Decidable.not_not.1 h2
        have h3' : twiceN (bs.map pnm) = false := by
          cases ht : twiceN (bs.map pnm)
          · rfl
          · exact absurd (.inr ht) h3
        refine ⟨fun m hm => ?_, fun b hb => ?_, ?_⟩
        · have h9 := List.all_eq_true.1 h2'.1 m hm
          unfold okM rightM at h9
          simp only [Bool.and_eq_true] at h9
          exact h9.2.1.1.2
        · have h9 := List.all_eq_true.1 h2'.2 b hb
          unfold okBd rightP at h9
          simp only [Bool.and_eq_true, decide_eq_true_eq] at h9
          exact ⟨h9.1.1.1.1.1.1.1.1.1.1.1.2, h9.1.1.1.1.1.1.1.1.1.1.2⟩
        · have h9 := nodup_of h3'
          rw [List.pairwise_map] at h9
          exact h9
end Go.Proofs.Ythbpnfpalcgfeaa
