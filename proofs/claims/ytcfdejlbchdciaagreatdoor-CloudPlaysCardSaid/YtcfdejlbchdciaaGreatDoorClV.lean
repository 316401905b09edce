/-
  What each call makes of the names of instances; a new provider; all of it in plain words.
-/
import Derived.Test.YtcfdejlbchdciaaGreatDoorClL
import Derived.Test.YtcfdejlbchdciaaGreatDoorMH
namespace Go.Proofs.YtcfdejlbchdciaaGreatDoor
open Go.RowKit
set_option linter.unusedVariables false
set_option linter.unusedSimpArgs false

theorem names_set {L : List Ins} {k : Nat} {x y : Ins} (h : L[k]? = some x) (e : y.nm = x.nm) : (L.set k y).map Ins.nm = L.map Ins.nm := by
  rw [List.map_set, e]
  obtain ⟨hl, he⟩ := List.getElem?_eq_some_iff.1 h
  have h2 : (L.map Ins.nm)[k]'(by rw [List.length_map]; exact hl) = x.nm := by rw [List.getElem_map, he]
  rw [← h2]
  exact List.set_getElem_self _
/-- What was given stays so; what is new was not given before; names are given ones and all different. -/
structure Stp (s s' : CS) : Prop where
  gv : ∀ t, Given s t → Given s' t
  nw : ∀ t ∈ s'.L.map Ins.nm, t ∈ s.L.map Ins.nm ∨ ¬ Given s t
  nm : s'.Nm
theorem Stp.refl {s : CS} (h : s.Nm) : Stp s s := ⟨fun _ h => h, fun _ h => .inl h, h⟩
theorem Stp.same {s s' : CS} (h : s.Nm) (hg : ∀ t, Given s t → Given s' t) (hl : s'.L.map Ins.nm = s.L.map Ins.nm) : Stp s s' := by
  refine ⟨hg, fun t ht => .inl (hl ▸ ht), fun x hx => ?_, by rw [hl]; exact h.nd⟩
  have h1 : x.nm ∈ s.L.map Ins.nm := hl ▸ List.mem_map.2 ⟨x, hx, rfl⟩
  obtain ⟨y, hy, e⟩ := List.mem_map.1 h1
  rw [← e]
  exact hg _ (h.own y hy)
theorem Stp.brk {s : CS} (h : s.Nm) (nm : ByteArray) (is : Bool) : Stp s (s.brk nm is).1 := by
  unfold CS.brk
  cases hf : fndK s.G nm with
  | none => exact .refl h
  | some j =>
    dsimp only
    cases hp : s.P[j]? with
    | none => exact .refl h
    | some p => exact .same h (fun t ht => given_pset ht hp (Int.le_refl _)) rfl
theorem Stp.fail {s : CS} (h : s.Nm) (nm : ByteArray) : Stp s (s.fail nm).1 := by
  unfold CS.fail
  cases hf : fndI s.L nm with
  | none => exact .refl h
  | some k =>
    dsimp only
    cases hx : s.L[k]? with
    | none => exact .refl h
    | some x =>
      dsimp only
      split
      · exact .same h (fun t ht => ht) (names_set hx rfl)
      · exact .refl h
theorem Stp.dec {s : CS} (h : s.Nm) (nm : ByteArray) (n : Int) : Stp s (s.dec nm n).1 := by
  unfold CS.dec
  cases hf : fndK s.G nm with
  | none => exact .refl h
  | some j =>
    dsimp only
    cases hg : s.G[j]? with
    | none => exact .refl h
    | some g =>
      cases hp : s.P[j]? with
      | none => exact .refl h
      | some p =>
        dsimp only
        split
        · exact .refl h
        · split
          · exact .refl h
          · exact .same h (fun t ht => given_pset (y := ⟨p.t - n, p.la, p.br⟩) ht hp (Int.le_refl _)) rfl
theorem Stp.del {s : CS} (h : s.Nm) (nm : ByteArray) : Stp s (s.del nm).1 := by
  unfold CS.del
  cases hf : fndI s.L nm with
  | none => exact .refl h
  | some k =>
    dsimp only
    cases hx : s.L[k]? with
    | none => exact .refl h
    | some x =>
      dsimp only
      cases hj : fndK s.G x.gp with
      | none => exact .refl h
      | some j =>
        dsimp only
        cases hg : s.G[j]? with
        | none => exact .refl h
        | some g =>
          cases hp : s.P[j]? with
          | none => exact .refl h
          | some p =>
            dsimp only
            split
            · exact .refl h
            · split
              · exact .refl h
              · exact .same h (fun t ht => given_pset (y := ⟨max g.mn (p.t - 1), p.la, p.br⟩) ht hp (Int.le_refl _)) (names_set hx rfl)
theorem Stp.tick {s : CS} (h : s.Nm) : Stp s s.tick := by
  refine ⟨fun t ht => ht, fun t ht => .inl ?_, h.tick⟩
  exact (names_sub (fun x y e => tickI_nm e) s.L).subset ht
theorem Stp.inc {s : CS} {m : Nat} (h : s.Nm) (hO : s.Ok m) (hm : 200 * (m : Int) + 200 ≤ 999999999) (nm : ByteArray) (n : Int) : Stp s (s.inc nm n).1 := by
  unfold CS.inc
  cases hf : fndK s.G nm with
  | none => exact .refl h
  | some j =>
    dsimp only
    cases hg : s.G[j]? with
    | none => exact .refl h
    | some g =>
      cases hp : s.P[j]? with
      | none => exact .refl h
      | some p =>
        dsimp only
        split
        · exact .refl h
        · split
          · exact .refl h
          · split
            · exact .refl h
            · obtain ⟨h1, h2, h3, h4⟩ := hO.tb j g p hg hp
              obtain ⟨b0, b1, b2, b3, _⟩ := hO.gb g (List.mem_of_getElem? hg)
              have hr := h.req (like := ⟨emp, emp, 1, s.dl, s.nw⟩) hO (by omega) hg hp (n := n.toNat) (by omega)
              refine ⟨fun t ht => given_pset (y := ⟨p.t + (n.toNat : Int), p.la + (n.toNat : Int), p.br⟩) ht hp (by dsimp only; omega), fun t ht => ?_, ⟨hr.own, hr.nd⟩⟩
              have ht2 : t ∈ (s.L ++ moreI g.nm p.la ⟨emp, emp, 1, s.dl, s.nw⟩ n.toNat).map Ins.nm := ht
              rw [List.map_append, List.mem_append] at ht2
              rcases ht2 with ht2 | ht2
              · exact .inl ht2
              · obtain ⟨y, hy, rfl⟩ := List.mem_map.1 ht2
                obtain ⟨k, hk, rfl⟩ := mem_moreI hy
                exact .inr (not_given hO hg hp (k := p.la + 1 + (k : Int)) (by omega) (by omega) (by omega))
/-- What is asked. -/
def CS.ask (s : CS) (kind : Int) (name grp : ByteArray) (n : Int) (is : Bool) : CS :=
  if kind = 0 then (s.inc grp n).1 else if kind = 1 then (s.del name).1 else if kind = 2 then (s.dec grp n).1 else if kind = 3 then (s.brk grp is).1 else if kind = 4 then (s.fail name).1 else s.tick
theorem CS.Ok.ask {s : CS} {m : Nat} (h : s.Ok m) (kind : Int) (name grp : ByteArray) (n : Int) (is : Bool) : (s.ask kind name grp n is).Ok (m + 1) := by
  unfold CS.ask
  split
  · exact h.inc grp n
  split
  · exact h.del name
  split
  · exact h.dec grp n
  split
  · exact (h.brk grp is).up (Nat.le_succ m)
  split
  · exact (h.fail name).up (Nat.le_succ m)
  · exact h.tick
theorem Stp.ask {s : CS} {m : Nat} (h : s.Nm) (hO : s.Ok m) (hm : 200 * (m : Int) + 200 ≤ 999999999) (kind : Int) (name grp : ByteArray) (n : Int) (is : Bool) : Stp s (s.ask kind name grp n is) := by
  unfold CS.ask
  split
  · exact .inc h hO hm grp n
  split
  · exact .del h name
  split
  · exact .dec h grp n
  split
  · exact .brk h grp is
  split
  · exact .fail h name
  · exact .tick h
/-- What is coming takes no longer than the delay: kept. -/
theorem CS.Cb.ask {s : CS} (h : s.Cb) (kind : Int) (name grp : ByteArray) (n : Int) (is : Bool) : (s.ask kind name grp n is).Cb ∧ (s.ask kind name grp n is).dl = s.dl := by
  unfold CS.ask
  split
  · unfold CS.inc
    cases hf : fndK s.G grp with
    | none => exact ⟨h, rfl⟩
    | some j =>
      dsimp only
      cases hg : s.G[j]? with
      | none => exact ⟨h, rfl⟩
      | some g =>
        cases hp : s.P[j]? with
        | none => exact ⟨h, rfl⟩
        | some p =>
          dsimp only
          split
          · exact ⟨h, rfl⟩
          split
          · exact ⟨h, rfl⟩
          split
          · exact ⟨h, rfl⟩
          refine ⟨fun x hx hs => ?_, rfl⟩
          rcases List.mem_append.1 (show x ∈ s.L ++ moreI g.nm p.la ⟨emp, emp, 1, s.dl, s.nw⟩ n.toNat from hx) with hx | hx
          · exact h x hx hs
          · obtain ⟨k, hk, rfl⟩ := mem_moreI hx
            exact Int.le_refl _
  split
  · unfold CS.del
    cases hf : fndI s.L name with
    | none => exact ⟨h, rfl⟩
    | some k =>
      dsimp only
      cases hx : s.L[k]? with
      | none => exact ⟨h, rfl⟩
      | some x =>
        dsimp only
        cases hj : fndK s.G x.gp with
        | none => exact ⟨h, rfl⟩
        | some j =>
          dsimp only
          cases hg : s.G[j]? with
          | none => exact ⟨h, rfl⟩
          | some g =>
            cases hp : s.P[j]? with
            | none => exact ⟨h, rfl⟩
            | some p =>
              dsimp only
              split
              · exact ⟨h, rfl⟩
              split
              · exact ⟨h, rfl⟩
              refine ⟨fun y hy hs => ?_, rfl⟩
              rcases List.mem_or_eq_of_mem_set (show y ∈ s.L.set k { x with st := 3, lf := 1 } from hy) with hy | rfl
              · exact h y hy hs
              · exact absurd hs (by dsimp only; decide)
  split
  · unfold CS.dec
    cases hf : fndK s.G grp with
    | none => exact ⟨h, rfl⟩
    | some j =>
      dsimp only
      cases hg : s.G[j]? with
      | none => exact ⟨h, rfl⟩
      | some g =>
        cases hp : s.P[j]? with
        | none => exact ⟨h, rfl⟩
        | some p =>
          dsimp only
          split
          · exact ⟨h, rfl⟩
          split
          · exact ⟨h, rfl⟩
          exact ⟨h, rfl⟩
  split
  · unfold CS.brk
    cases hf : fndK s.G grp with
    | none => exact ⟨h, rfl⟩
    | some j =>
      dsimp only
      cases hp : s.P[j]? with
      | none => exact ⟨h, rfl⟩
      | some p => exact ⟨h, rfl⟩
  split
  · unfold CS.fail
    cases hf : fndI s.L name with
    | none => exact ⟨h, rfl⟩
    | some k =>
      dsimp only
      cases hx : s.L[k]? with
      | none => exact ⟨h, rfl⟩
      | some x =>
        dsimp only
        split
        · refine ⟨fun y hy hs => ?_, rfl⟩
          rcases List.mem_or_eq_of_mem_set (show y ∈ s.L.set k { x with st := 4, lf := 0 } from hy) with hy | rfl
          · exact h y hy hs
          · exact absurd hs (by dsimp only; decide)
        · exact ⟨h, rfl⟩
  · refine ⟨fun y hy hs => ?_, rfl⟩
    obtain ⟨x, hx, e⟩ := List.mem_filterMap.1 (show y ∈ s.L.filterMap fun x => tickI (brOf s x.gp) x from hy)
    show y.lf ≤ s.dl
    unfold tickI at e
    split at e
    · cases e
    · split at e
      · rename_i h1
        have := h x hx h1
        split at e
        · obtain rfl := Option.some.inj e
          dsimp only at hs
          split at hs <;> omega
        · obtain rfl := Option.some.inj e
          dsimp only
          omega
      · rename_i h1
        obtain rfl := Option.some.inj e
        exact absurd hs h1
def pl0 : Pl := ⟨0, 0, false⟩
def plN (g : Gk) : Pl := ⟨g.mn, g.mn, false⟩
def insN (g : Gk) : List Ins := moreI g.nm 0 ⟨emp, emp, 2, 0, 0⟩ g.mn.toNat
/-- A provider whose first groups have their machines. -/
def CS.at (G : List Gk) (dl : Int) (i : Nat) : CS := ⟨G, (G.take i).map plN ++ (G.drop i).map fun _ => pl0, (G.take i).flatMap insN, dl, 0, 0⟩
def CS.new (G : List Gk) (dl : Int) : CS := ⟨G, G.map plN, G.flatMap insN, dl, 0, 0⟩
theorem at_zero (G : List Gk) (dl : Int) : CS.at G dl 0 = ⟨G, G.map fun _ => pl0, [], dl, 0, 0⟩ := rfl
theorem at_all (G : List Gk) (dl : Int) {i : Nat} (h : G.length ≤ i) : CS.at G dl i = CS.new G dl := by
  unfold CS.at CS.new
  rw [List.take_of_length_le h, List.drop_of_length_le h, List.map_nil, List.append_nil]
theorem at_pool {G : List Gk} {dl : Int} {i : Nat} (h : i < G.length) : (CS.at G dl i).P[i]? = some pl0 := by
  unfold CS.at
  dsimp only
  have hl : ((G.take i).map plN).length = i := by rw [List.length_map, List.length_take]; omega
  rw [List.getElem?_append_right (by omega), hl, Nat.sub_self, List.getElem?_map, List.getElem?_drop, Nat.add_zero, List.getElem?_eq_getElem h]
  rfl
theorem at_next {G : List Gk} {dl : Int} {i : Nat} {g : Gk} (hg : G[i]? = some g) (h0 : 0 ≤ g.mn) : (CS.at G dl i).req i g pl0 ⟨emp, emp, 2, 0, 0⟩ g.mn.toNat = CS.at G dl (i + 1) := by
  obtain ⟨hl, he⟩ := List.getElem?_eq_some_iff.1 hg
  have hlen : ((G.take i).map plN).length = i := by rw [List.length_map, List.length_take]; omega
  have ht : G.take (i + 1) = G.take i ++ [g] := by rw [List.take_add_one, hg]; rfl
  have hd : G.drop i = g :: G.drop (i + 1) := by rw [List.drop_eq_getElem_cons hl, he]
  have hn : ((g.mn.toNat : Nat) : Int) = g.mn := by omega
  unfold CS.req CS.at
  dsimp only
  have e1 : (List.map plN (List.take i G) ++ List.map (fun _ => pl0) (List.drop i G)).set i ⟨pl0.t + (g.mn.toNat : Int), pl0.la + (g.mn.toNat : Int), pl0.br⟩ = List.map plN (List.take (i + 1) G) ++ List.map (fun _ => pl0) (List.drop (i + 1) G) := by
    rw [List.set_append_right _ _ (by omega), hlen, Nat.sub_self, hd, List.map_cons, List.set_cons_zero, ht, List.map_append, List.append_assoc]
    congr 1
    show _ :: _ = plN g :: _
    congr 1
    unfold plN
    rw [hn]
    show (⟨0 + g.mn, 0 + g.mn, false⟩ : Pl) = _
    rw [Int.zero_add]
  have e2 : List.flatMap insN (List.take i G) ++ moreI g.nm pl0.la ⟨emp, emp, 2, 0, 0⟩ g.mn.toNat = List.flatMap insN (List.take (i + 1) G) := by
    rw [ht, List.flatMap_append]
    congr 1
    show _ = insN g ++ []
    rw [List.append_nil]
    rfl
  rw [e1, e2]
/-- What right groups are. -/
structure GOk (G : List Gk) : Prop where
  g16 : G.length ≤ 16
  nd : (G.map Gk.nm).Nodup
  gb : ∀ g ∈ G, 0 ≤ g.mn ∧ g.mn ≤ g.mx ∧ 1 ≤ g.mx ∧ g.mx ≤ 200 ∧ g.nm.size ≤ 300
theorem insN_len : ∀ (G : List Gk), (∀ g ∈ G, 0 ≤ g.mn ∧ g.mn ≤ 200) → (G.flatMap insN).length ≤ 200 * G.length
  | [], _ => Nat.zero_le _
  | g :: G, h => by
    have ih := insN_len G fun x hx => h x (List.mem_cons_of_mem _ hx)
    have h1 := h g (List.mem_cons_self ..)
    rw [List.flatMap_cons, List.length_append, List.length_cons]
    unfold insN
    rw [moreI_len]
    have h2 : g.mn.toNat ≤ 200 := by omega
    have h3 : (List.flatMap (fun g => moreI g.nm 0 ⟨emp, emp, 2, 0, 0⟩ g.mn.toNat) G).length ≤ 200 * G.length := ih
    omega
theorem at_ins {G : List Gk} {dl : Int} (h : GOk G) (hd : 1 ≤ dl ∧ dl ≤ 1000) {x : Ins} (hx : x ∈ G.flatMap insN) : ∃ (j : Nat) (g : Gk) (k : Int), G[j]? = some g ∧ 1 ≤ k ∧ k ≤ g.mn ∧ x = ⟨mnm g.nm k, g.nm, 2, 0, 0⟩ := by
  obtain ⟨g, hg, hx⟩ := List.mem_flatMap.1 hx
  obtain ⟨k, hk, rfl⟩ := mem_moreI hx
  obtain ⟨j, hj⟩ := List.mem_iff_getElem?.1 hg
  obtain ⟨h0, h1, h2, h3, _⟩ := h.gb g hg
  exact ⟨j, g, 0 + 1 + (k : Int), hj, by omega, by omega, rfl⟩
theorem CS.Ok.new {G : List Gk} {dl : Int} (h : GOk G) (hd : 1 ≤ dl ∧ dl ≤ 1000) : (CS.new G dl).Ok 1 := by
  refine ⟨by unfold CS.new; rw [List.length_map], h.g16, h.nd, h.gb, ?_, ?_, ?_, hd, by unfold CS.new; dsimp only; omega⟩
  · intro j g p hg hp
    unfold CS.new at hg hp
    dsimp only at hg hp
    rw [List.getElem?_map, hg] at hp
    obtain rfl := Option.some.inj hp
    obtain ⟨h0, h1, h2, h3, _⟩ := h.gb g (List.mem_of_getElem? hg)
    unfold plN
    dsimp only
    omega
  · intro x hx
    obtain ⟨j, g, k, hg, hk1, hk2, rfl⟩ := at_ins h hd hx
    obtain ⟨h0, h1, h2, h3, h4⟩ := h.gb g (List.mem_of_getElem? hg)
    refine ⟨⟨j, fndK_nd h.nd hg⟩, Int.le_refl _, by dsimp only; omega, fun e => by dsimp only at e; omega, by dsimp only; omega, by dsimp only; omega, mnm_size _ _ h4, fun _ => rfl, by unfold CS.new; exact Int.le_refl _, Int.le_refl _⟩
  · have h1 := insN_len G fun g hg => by
      obtain ⟨h0, h1, h2, h3, _⟩ := h.gb g hg
      omega
    have := h.g16
    show (G.flatMap insN).length ≤ 3200 * 1
    omega
theorem CS.Cb.new {G : List Gk} {dl : Int} (h : GOk G) (hd : 1 ≤ dl ∧ dl ≤ 1000) : (CS.new G dl).Cb := fun x hx hs => by
  obtain ⟨j, g, k, hg, hk1, hk2, rfl⟩ := at_ins h hd hx
  exact absurd hs (by dsimp only; decide)
theorem nodup_new : ∀ {G : List Gk}, (G.map Gk.nm).Nodup → (∀ g ∈ G, 0 ≤ g.mn ∧ g.mn ≤ 200) → ((G.flatMap insN).map Ins.nm).Nodup
  | [], _, _ => List.nodup_nil
  | g :: G, hn, h => by
    have ih := nodup_new (G := G) (List.nodup_cons.1 (List.map_cons ▸ hn)).2 fun x hx => h x (List.mem_cons_of_mem _ hx)
    have hng := (List.nodup_cons.1 (List.map_cons ▸ hn)).1
    have h1 := h g (List.mem_cons_self ..)
    rw [List.flatMap_cons, List.map_append, List.nodup_append]
    refine ⟨nodup_more g.nm 0 (Int.le_refl _) _ _ (by omega), ih, ?_⟩
    intro a ha b hb e
    subst e
    obtain ⟨x, hx, e1⟩ := List.mem_map.1 ha
    obtain ⟨y, hy, e2⟩ := List.mem_map.1 hb
    obtain ⟨k, hk, rfl⟩ := mem_moreI hx
    obtain ⟨g', hg', hy⟩ := List.mem_flatMap.1 hy
    obtain ⟨k', hk', rfl⟩ := mem_moreI hy
    have h2 := h g' (List.mem_cons_of_mem _ hg')
    have e3 : mnm g.nm (0 + 1 + (k : Int)) = mnm g'.nm (0 + 1 + (k' : Int)) := e1.trans e2.symm
    have := (mnm_inj (by omega) (by omega) e3).1
    exact hng (List.mem_map.2 ⟨g', hg', this.symm⟩)
theorem CS.Nm.new {G : List Gk} {dl : Int} (h : GOk G) (hd : 1 ≤ dl ∧ dl ≤ 1000) : (CS.new G dl).Nm := by
  refine ⟨fun x hx => ?_, nodup_new h.nd fun g hg => by
    obtain ⟨h0, h1, h2, h3, _⟩ := h.gb g hg
    omega⟩
  obtain ⟨j, g, k, hg, hk1, hk2, rfl⟩ := at_ins h hd hx
  exact ⟨j, g, plN g, k, hg, by show (G.map plN)[j]? = _; rw [List.getElem?_map, hg]; rfl, rfl, hk1, hk2⟩
/-- Right groups are so. -/
theorem okG_all {l : List Gp} (h : rightGs l = true) {k : Nat} {g : Gp} (hg : l[k]? = some g) : rightG g = true ∧ g.nm.size ≤ 48 ∧ findA l g.nm 0 = (k : Int) := by
  unfold rightGs at h
  rw [Bool.and_eq_true, List.all_eq_true] at h
  have h1 := h.2 k (List.mem_range.2 (List.getElem?_eq_some_iff.1 hg).1)
  rw [okG_at hg, Bool.and_eq_true, Bool.and_eq_true] at h1
  exact ⟨h1.1.1, of_decide_eq_true h1.1.2, of_decide_eq_true h1.2⟩
theorem nodup_of_find : ∀ {l : List Gk}, (∀ (k : Nat) (g : Gk), l[k]? = some g → fndK l g.nm = some k) → (l.map Gk.nm).Nodup
  | [], _ => List.nodup_nil
  | x :: l, h => by
    rw [List.map_cons, List.nodup_cons]
    have hne : ∀ (k : Nat) (g : Gk), l[k]? = some g → ¬ x.nm = g.nm ∧ fndK l g.nm = some k := fun k g hg => by
      have h1 := h (k + 1) g (by simpa using hg)
      unfold fndK at h1
      by_cases e : x.nm = g.nm
      · rw [if_pos e] at h1
        have := Option.some.inj h1
        omega
      · rw [if_neg e] at h1
        cases h2 : fndK l g.nm with
        | none => rw [h2] at h1; cases h1
        | some i =>
          rw [h2] at h1
          have e2 : i + 1 = k + 1 := Option.some.inj h1
          exact ⟨e, by congr 1; omega⟩
    refine ⟨fun hm => ?_, nodup_of_find fun k g hg => (hne k g hg).2⟩
    obtain ⟨g, hg, e⟩ := List.mem_map.1 hm
    obtain ⟨k, hk⟩ := List.mem_iff_getElem?.1 hg
    exact (hne k g hk).1 e.symm
theorem inB_iff {x a b : Int} (h : inB x a b = true) : a ≤ x ∧ x ≤ b := by
  unfold inB at h
  simpa using h
theorem rightGs_ok {l : List Gp} (h : rightGs l = true) : GOk (l.map gkOf) := by
  have h16 : l.length ≤ 16 := by
    unfold rightGs at h
    rw [Bool.and_eq_true] at h
    exact of_decide_eq_true h.1
  refine ⟨by rw [List.length_map]; exact h16, nodup_of_find fun k g hg => ?_, fun g hg => ?_⟩
  · rw [List.getElem?_map] at hg
    cases hx : l[k]? with
    | none => rw [hx] at hg; cases hg
    | some x =>
      rw [hx] at hg
      obtain rfl := Option.some.inj hg
      obtain ⟨_, _, h3⟩ := okG_all h hx
      cases hf : fndK (l.map gkOf) x.nm with
      | none => rw [findA_none hf] at h3; omega
      | some j =>
        rw [findA_some hf] at h3
        show fndK (l.map gkOf) x.nm = _
        rw [hf]
        congr 1
        omega
  · obtain ⟨x, hx, rfl⟩ := List.mem_map.1 hg
    obtain ⟨k, hk⟩ := List.mem_iff_getElem?.1 hx
    obtain ⟨h1, h2, _⟩ := okG_all h hk
    unfold rightG at h1
    simp only [Bool.and_eq_true] at h1
    obtain ⟨⟨⟨⟨⟨⟨⟨⟨_, hmx⟩, hmn⟩, _⟩, _⟩, _⟩, _⟩, _⟩, _⟩ := h1
    have h3 := inB_iff hmx
    have h4 := inB_iff hmn
    show 0 ≤ x.mn ∧ x.mn ≤ x.mx ∧ 1 ≤ x.mx ∧ x.mx ≤ 200 ∧ x.nm.size ≤ 300
    omega
end Go.Proofs.YtcfdejlbchdciaaGreatDoor
