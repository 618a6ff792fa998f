import Derived.Test.YtohbonfngeblkaaGreatMnH
namespace Go.Proofs.YtohbonfngeblkaaGreat
open Go.RowKit
namespace Lw
open Co
theorem mod_mem : ∀ (l : List Srv) (k : Nat) (c : Int) (y : Srv), y ∈ l.modify k (fun x => { x with client := c }) → ∃ x ∈ l, y.id = x.id ∧ (y = x ∨ y.client = c)
  | [], k, c, y, h => by simp at h
  | x :: r, 0, c, y, h => by
    simp only [List.modify_zero_cons, List.mem_cons] at h
    rcases h with rfl | h
    · exact ⟨x, List.mem_cons_self, rfl, .inr rfl⟩
    · exact ⟨y, List.mem_cons_of_mem _ h, rfl, .inl rfl⟩
  | x :: r, k + 1, c, y, h => by
    simp only [List.modify_succ_cons, List.mem_cons] at h
    rcases h with rfl | h
    · exact ⟨y, List.mem_cons_self, rfl, .inl rfl⟩
    · obtain ⟨z, hz, h1, h2⟩ := mod_mem r k c y h
      exact ⟨z, List.mem_cons_of_mem _ hz, h1, h2⟩
theorem mod_ids : ∀ (l : List Srv) (k : Nat) (c : Int), l.Pairwise (fun a b => a.id < b.id) → (l.modify k (fun x => { x with client := c })).Pairwise (fun a b => a.id < b.id)
  | [], k, c, h => by simp
  | x :: r, 0, c, h => by
    obtain ⟨h1, h2⟩ := List.pairwise_cons.1 h
    simp only [List.modify_zero_cons]
    exact List.pairwise_cons.2 ⟨h1, h2⟩
  | x :: r, k + 1, c, h => by
    obtain ⟨h1, h2⟩ := List.pairwise_cons.1 h
    simp only [List.modify_succ_cons]
    refine List.pairwise_cons.2 ⟨fun y hy => ?_, mod_ids r k c h2⟩
    obtain ⟨z, hz, e, _⟩ := mod_mem r k c y hy
    rw [e]; exact h1 z hz
theorem mod_keep : ∀ (l : List Srv) (k : Nat) (c : Int) (s : Srv), l[k]? = some s → ∀ x ∈ l, x ≠ s → x ∈ l.modify k (fun x => { x with client := c })
  | [], k, c, s, h, _, _, _ => by simp at h
  | y :: r, 0, c, s, h, x, hx, hne => by
    simp at h; subst h
    simp only [List.modify_zero_cons]
    rcases List.mem_cons.1 hx with rfl | hx
    · exact absurd rfl hne
    · exact List.mem_cons_of_mem _ hx
  | y :: r, k + 1, c, s, h, x, hx, hne => by
    simp only [List.modify_succ_cons]
    rcases List.mem_cons.1 hx with rfl | hx
    · exact List.mem_cons_self
    · exact List.mem_cons_of_mem _ (mod_keep r k c s (by simpa using h) x hx hne)
theorem mod_at : ∀ (l : List Srv) (k : Nat) (c : Int) (s : Srv), l[k]? = some s → { s with client := c } ∈ l.modify k (fun x => { x with client := c })
  | [], k, c, s, h => by simp at h
  | y :: r, 0, c, s, h => by simp at h; subst h; simp
  | y :: r, k + 1, c, s, h => by
    simp only [List.modify_succ_cons]
    exact List.mem_cons_of_mem _ (mod_at r k c s (by simpa using h))
theorem erase_keep {α : Type} (l : List α) (k : Nat) (s : α) (h : l[k]? = some s) : ∀ x ∈ l, x ≠ s → x ∈ l.eraseIdx k := by
  intro x hx hne
  rw [List.mem_eraseIdx_iff_getElem?]
  obtain ⟨j, hj⟩ := List.getElem?_of_mem hx
  refine ⟨j, fun e => ?_, hj⟩
  subst e
  rw [h] at hj
  exact hne (Option.some.inj hj).symm
structure Step (S S' : Sta) (op nx : Int) (i : Nat) (c : Wtr) : Prop where
  inv : Inv S' (nx - 1)
  wts : S'.wts = S.wts.eraseIdx i
  pools : S'.pools = S.pools
  bud : S'.bud = S.bud
  rest : S'.plan = S.plan ∧ S'.begun = S.begun ∧ S'.back = S.back
  keep : ∀ x ∈ S.srv, x.client ≠ 0 → x ∈ S'.srv
  got : ∃ x ∈ S'.srv, x.client = c.client
  up : op + 1 ≤ nx ∧ nx ≤ op + 2
  len : (S'.srv.length : Int) ≤ max (S.srv.length : Int) S.bud
theorem lent_step {S S' : Sta} {op nx : Int} (hI : Inv S op) {i : Nat} {c : Wtr} (h : rLent S (op + 1) i c = some (S', nx)) : Step S S' op nx i c := by
  have hcl : (S.wts.eraseIdx i).Pairwise (fun a b => a.client ≠ b.client) := hI.cli.sublist (List.eraseIdx_sublist _ _)
  unfold rLent at h
  split at h
  · simp at h
  · rename_i x hx
    split at h
    · rename_i k hk
      simp only [Option.some.injEq, Prod.mk.injEq] at h
      obtain ⟨rfl, rfl⟩ := h
      obtain ⟨s, hs, hs2⟩ := (find_idx _ S.srv).1 k hk
      have hidle := List.find?_some hs2
      simp only [isIdle, Bool.and_eq_true, beq_iff_eq] at hidle
      refine ⟨⟨mod_ids _ _ _ hI.ids, fun y hy => ?_, by have := hI.op0; omega, hcl⟩, rfl, rfl, rfl, ⟨rfl, rfl, rfl⟩, fun y hy hc => ?_, ⟨_, mod_at _ _ _ _ hs, rfl⟩, by omega, ?_⟩
      · obtain ⟨z, hz, e, _⟩ := mod_mem _ _ _ _ hy
        rw [e]
        have := hI.low z hz
        omega
      · exact mod_keep _ _ _ _ hs y hy (fun e => hc (by rw [e]; exact hidle.1))
      · show ((S.srv.modify k _).length : Int) ≤ _
        rw [List.length_modify]; omega
    · split at h
      · simp at h
      · rename_i hno
        split at h
        · simp at h
        · rename_i hr
          simp only [Option.some.injEq, Prod.mk.injEq] at h
          obtain ⟨rfl, rfl⟩ := h
          have hlt : (S.srv.length : Int) < S.bud := by
            unfold rRoom at hr
            split at hr
            · assumption
            · split at hr <;> simp at hr
          refine ⟨⟨?_, fun y hy => ?_, by have := hI.op0; omega, hcl⟩, rfl, rfl, rfl, ⟨rfl, rfl, rfl⟩, fun y hy _ => ?_, ⟨⟨op + 1, x.nm, x.fr, c.client⟩, ?_, rfl⟩, by omega, ?_⟩
          · show (S.srv ++ [_]).Pairwise _
            rw [List.pairwise_append]
            refine ⟨hI.ids, by simp, fun a ha b hb => ?_⟩
            simp at hb; subst hb
            have := hI.low a ha
            show a.id < op + 1
            omega
          · have hy' : y ∈ S.srv ++ [⟨op + 1, x.nm, x.fr, c.client⟩] := hy
            rcases List.mem_append.1 hy' with hy' | hy'
            · have := hI.low y hy'; omega
            · simp at hy'; subst hy'; have := hI.op0; show 1 ≤ op + 1 ∧ op + 1 ≤ _; omega
          · show y ∈ S.srv ++ [_]
            exact List.mem_append_left _ hy
          · show _ ∈ S.srv ++ [_]
            simp
          · show ((S.srv ++ [_]).length : Int) ≤ _
            simp; omega
        · rename_i k hr
          simp only [Option.some.injEq, Prod.mk.injEq] at h
          obtain ⟨rfl, rfl⟩ := h
          have hk : ¬ (S.srv.length : Int) < S.bud ∧ S.srv.findIdx? (isIdle ⟨#[]⟩ true) = some k := by
            unfold rRoom at hr
            split at hr
            · simp at hr
            · rename_i hb
              refine ⟨hb, ?_⟩
              split at hr
              · simp at hr
              · rename_i j hj
                simp at hr
                rw [hj, hr]
          obtain ⟨s, hs, hs2⟩ := (find_idx _ S.srv).1 k hk.2
          have hidle := List.find?_some hs2
          simp only [isIdle, Bool.and_eq_true, beq_iff_eq] at hidle
          have hmem : ∀ y ∈ S.srv.eraseIdx k, y ∈ S.srv := fun y hy => (List.eraseIdx_sublist _ _).subset hy
          refine ⟨⟨?_, fun y hy => ?_, by have := hI.op0; omega, hcl⟩, rfl, rfl, rfl, ⟨rfl, rfl, rfl⟩, fun y hy hc => ?_, ⟨⟨op + 1, x.nm, x.fr, c.client⟩, ?_, rfl⟩, by omega, ?_⟩
          · show (S.srv.eraseIdx k ++ [_]).Pairwise _
            rw [List.pairwise_append]
            refine ⟨hI.ids.sublist (List.eraseIdx_sublist _ _), by simp, fun a ha b hb => ?_⟩
            simp at hb; subst hb
            have := hI.low a (hmem a ha)
            show a.id < op + 1
            omega
          · have hy' : y ∈ S.srv.eraseIdx k ++ [⟨op + 1, x.nm, x.fr, c.client⟩] := hy
            rcases List.mem_append.1 hy' with hy' | hy'
            · have := hI.low y (hmem y hy'); omega
            · simp at hy'; subst hy'; have := hI.op0; show 1 ≤ op + 1 ∧ op + 1 ≤ _; omega
          · show y ∈ S.srv.eraseIdx k ++ [_]
            exact List.mem_append_left _ (erase_keep _ _ _ hs y hy (fun e => hc (by rw [e]; exact hidle.1)))
          · show _ ∈ S.srv.eraseIdx k ++ [_]
            simp
          · show ((S.srv.eraseIdx k ++ [_]).length : Int) ≤ _
            have hkl : k < S.srv.length := (List.getElem?_eq_some_iff.1 hs).1
            rw [List.length_append, List.length_eraseIdx_of_lt hkl]
            simp
            omega
theorem first_eq {S : Sta} {op : Int} (hI : Inv S op) : ∀ (l : List Wtr) (i : Nat), S.wts.drop i = l → (cFirst S op l).map (fun y => (y.1, y.2 + 1)) = rFirst S (op + 1) i l
  | [], i, _ => rfl
  | c :: r, i, h => by
    have hi : S.wts[i]? = some c := by
      rw [← List.head?_drop, h]; rfl
    have hr : S.wts.drop (i + 1) = r := by
      rw [← List.tail_drop, h]; rfl
    have hg := give_lent hI hi
    rw [cFirst, rFirst, ← hg]
    cases cGive S op c with
    | none => simp only [Option.map_none]; exact first_eq hI r (i + 1) hr
    | some y => rfl
theorem first_some {S S' : Sta} {op nx : Int} : ∀ (l : List Wtr) (i : Nat), S.wts.drop i = l → rFirst S (op + 1) i l = some (S', nx) → ∃ j c, S.wts[j]? = some c ∧ i ≤ j ∧ rLent S (op + 1) j c = some (S', nx)
  | [], i, _, h => by simp [rFirst] at h
  | c :: r, i, hd, h => by
    have hi : S.wts[i]? = some c := by
      rw [← List.head?_drop, hd]; rfl
    have hr : S.wts.drop (i + 1) = r := by
      rw [← List.tail_drop, hd]; rfl
    rw [rFirst] at h
    cases hl : rLent S (op + 1) i c with
    | none =>
      rw [hl] at h
      obtain ⟨j, c', h1, h2, h3⟩ := first_some r (i + 1) hr h
      exact ⟨j, c', h1, by omega, h3⟩
    | some y =>
      rw [hl] at h
      simp at h
      exact ⟨i, c, hi, Nat.le_refl _, by rw [hl, h]⟩
theorem serve_eq : ∀ (f : Nat) (S : Sta) (op : Int), Inv S op → ((cServe f S op).1, (cServe f S op).2 + 1) = rServed f S (op + 1) ∧ Inv (cServe f S op).1 (cServe f S op).2
  | 0, S, op, hI => ⟨rfl, hI⟩
  | f + 1, S, op, hI => by
    have he := first_eq hI S.wts 0 (by simp)
    rw [cServe, rServed, ← he]
    cases hc : cFirst S op S.wts with
    | none => exact ⟨rfl, hI⟩
    | some y =>
      rw [hc] at he
      obtain ⟨j, c, hj, _, hl⟩ := first_some (S := S) (S' := y.1) (op := op) (nx := y.2 + 1) S.wts 0 (by simp) (by rw [← he]; rfl)
      have hst := lent_step hI hl
      have hI2 : Inv y.1 y.2 := by have := hst.inv; rwa [show y.2 + 1 - 1 = y.2 by omega] at this
      simp only [Option.map_some]
      exact serve_eq f y.1 y.2 hI2
end Lw
end Go.Proofs.YtohbonfngeblkaaGreat
namespace Go.Proofs.YtohbonfngeblkaaGreat
open Go.RowKit
namespace Lw
open Co
def Still (S : Sta) (op : Int) : Prop := rFirst S (op + 1) 0 S.wts = none
theorem served_still : ∀ (f : Nat) (S : Sta) (op : Int), Inv S op → S.wts.length ≤ f → Still (cServe f S op).1 (cServe f S op).2
  | 0, S, op, hI, h => by
    have : S.wts = [] := List.length_eq_zero_iff.1 (by omega)
    show rFirst S (op + 1) 0 S.wts = none
    rw [this]; rfl
  | f + 1, S, op, hI, h => by
    have he := first_eq hI S.wts 0 (by simp)
    rw [cServe]
    cases hc : cFirst S op S.wts with
    | none =>
      rw [hc] at he
      exact he.symm
    | some y =>
      rw [hc] at he
      obtain ⟨j, c, hj, _, hl⟩ := first_some (S := S) (S' := y.1) (op := op) (nx := y.2 + 1) S.wts 0 (by simp) (by rw [← he]; rfl)
      have hst := lent_step hI hl
      have hI2 : Inv y.1 y.2 := by have := hst.inv; rwa [show y.2 + 1 - 1 = y.2 by omega] at this
      refine served_still f y.1 y.2 hI2 ?_
      rw [hst.wts, List.length_eraseIdx_of_lt (List.getElem?_eq_some_iff.1 hj).1]
      omega
structure Kept (S S' : Sta) : Prop where
  pools : S'.pools = S.pools
  bud : S'.bud = S.bud
  rest : S'.plan = S.plan ∧ S'.begun = S.begun ∧ S'.back = S.back
  keep : ∀ x ∈ S.srv, x.client ≠ 0 → x ∈ S'.srv
  sub : S'.wts.Sublist S.wts
  len : (S'.srv.length : Int) ≤ max (S.srv.length : Int) S.bud
theorem serve_kept : ∀ (f : Nat) (S : Sta) (op : Int), Inv S op → Kept S (cServe f S op).1
  | 0, S, op, _ => ⟨rfl, rfl, ⟨rfl, rfl, rfl⟩, fun _ h _ => h, List.Sublist.refl _, by show (S.srv.length : Int) ≤ _; omega⟩
  | f + 1, S, op, hI => by
    have he := first_eq hI S.wts 0 (by simp)
    rw [cServe]
    cases hc : cFirst S op S.wts with
    | none => exact ⟨rfl, rfl, ⟨rfl, rfl, rfl⟩, fun _ h _ => h, List.Sublist.refl _, by show (S.srv.length : Int) ≤ _; omega⟩
    | some y =>
      rw [hc] at he
      obtain ⟨j, c, hj, _, hl⟩ := first_some (S := S) (S' := y.1) (op := op) (nx := y.2 + 1) S.wts 0 (by simp) (by rw [← he]; rfl)
      have hst := lent_step hI hl
      have hI2 : Inv y.1 y.2 := by have := hst.inv; rwa [show y.2 + 1 - 1 = y.2 by omega] at this
      have ih := serve_kept f y.1 y.2 hI2
      refine ⟨ih.pools.trans hst.pools, ih.bud.trans hst.bud, ⟨ih.rest.1.trans hst.rest.1, ih.rest.2.1.trans hst.rest.2.1, ih.rest.2.2.trans hst.rest.2.2⟩, fun x hx hx0 => ih.keep x (hst.keep x hx hx0) hx0, ih.sub.trans (by rw [hst.wts]; exact List.eraseIdx_sublist _ _), ?_⟩
      have h1 := ih.len
      have h2 := hst.len
      rw [hst.bud] at h1
      show ((cServe f y.1 y.2).1.srv.length : Int) ≤ _
      omega
theorem lent_wts {S : Sta} {nx : Int} {c : Wtr} {i j : Nat} {l : List Wtr} : (rLent S nx i c).isSome = (rLent { S with wts := l } nx j c).isSome := by
  unfold rLent rRoom
  simp only
  cases S.pools.find? (isNameP c.pool) with
  | none => rfl
  | some x =>
    simp only
    cases S.srv.findIdx? (isIdle c.pool false) with
    | some k => rfl
    | none =>
      simp only
      split
      · rfl
      · split <;> rfl
theorem first_none {S : Sta} {nx : Int} : ∀ (l : List Wtr) (i : Nat), rFirst S nx i l = none ↔ ∀ c ∈ l, (rLent S nx 0 c).isSome = false
  | [], i => by simp [rFirst]
  | c :: r, i => by
    have hw : (rLent S nx i c).isSome = (rLent S nx 0 c).isSome := lent_wts (l := S.wts)
    rw [rFirst]
    cases hl : rLent S nx i c with
    | none =>
      rw [hl] at hw
      simp only
      rw [first_none r (i + 1)]
      constructor
      · intro h d hd
        rcases List.mem_cons.1 hd with rfl | hd
        · rw [← hw]; rfl
        · exact h d hd
      · intro h d hd
        exact h d (List.mem_cons_of_mem _ hd)
    | some y =>
      rw [hl] at hw
      simp only [reduceCtorEq, false_iff]
      intro h
      have := h c List.mem_cons_self
      rw [← hw] at this
      simp at this
theorem ask_serve {S : Sta} {op : Int} (hI : Inv S op) (hst : Still S op) {c : Wtr} (hn : ∀ x ∈ S.wts, x.client ≠ c.client) (hc0 : c.client ≠ 0) :
    Inv { S with wts := S.wts ++ [c] } op ∧
    ((cServe (S.wts ++ [c]).length { S with wts := S.wts ++ [c] } op = ({ S with wts := S.wts ++ [c] }, op)) ∨ ∃ x ∈ (cServe (S.wts ++ [c]).length { S with wts := S.wts ++ [c] } op).1.srv, x.client = c.client) := by
  have hI1 : Inv { S with wts := S.wts ++ [c] } op := ⟨hI.ids, hI.low, hI.op0, by
    rw [List.pairwise_append]
    refine ⟨hI.cli, by simp, fun a ha b hb => ?_⟩
    simp at hb; subst hb
    exact hn a ha⟩
  refine ⟨hI1, ?_⟩
  have hlen : (S.wts ++ [c]).length = S.wts.length + 1 := by simp
  rw [hlen, cServe]
  have he := first_eq hI1 (S.wts ++ [c]) 0 (by simp)
  cases hc : cFirst { S with wts := S.wts ++ [c] } op (S.wts ++ [c]) with
  | none => left; rfl
  | some y =>
    right
    rw [hc] at he
    obtain ⟨j, d, hj, _, hl⟩ := first_some (S := { S with wts := S.wts ++ [c] }) (S' := y.1) (op := op) (nx := y.2 + 1) (S.wts ++ [c]) 0 (by simp) (by rw [← he]; rfl)
    have hstp := lent_step hI1 hl
    have hI2 : Inv y.1 y.2 := by have := hstp.inv; rwa [show y.2 + 1 - 1 = y.2 by omega] at this
    have hd : d = c := by
      have hmem : d ∈ S.wts ++ [c] := List.mem_of_getElem? hj
      rcases List.mem_append.1 hmem with h | h
      · have h1 := (first_none S.wts 0).1 hst d h
        have h2 : (rLent S (op + 1) 0 d).isSome = (rLent { S with wts := S.wts ++ [c] } (op + 1) j d).isSome := lent_wts
        rw [h1, hl] at h2
        simp at h2
      · simpa using h
    subst hd
    obtain ⟨x, hx, hxc⟩ := hstp.got
    exact ⟨x, (serve_kept _ _ _ hI2).keep x hx (by rw [hxc]; exact hc0), hxc⟩
end Lw
end Go.Proofs.YtohbonfngeblkaaGreat
namespace Go.Proofs.YtohbonfngeblkaaGreat
open Go.RowKit
namespace Lw
open Co
structure Res where
  S : Sta
  op : Int
  id : Int
  err : Nat
def okCli (c : Int) : Bool := decide (1 ≤ c) && decide (c ≤ 99)
def joined (S : Sta) (c : Int) (nm : ByteArray) : Sta := { S with wts := S.wts ++ [(⟨c, nm⟩ : Wtr)] }
def cAsked (S : Sta) (op : Int) (c : Int) (nm : ByteArray) : Sta × Int := cServe (S.wts.length + 1) (joined S c nm) op
def rAsked (S : Sta) (nx : Int) (c : Int) (nm : ByteArray) : Sta × Int := rServed (S.wts.length + 1) (joined S c nm) nx
def cAsk (S : Sta) (op : Int) (c : Int) (name : ByteArray) : Res :=
  if okCli c = false then ⟨S, op, 0, 10⟩
  else if ((S.srv.find? (isCliV c)).isSome || (S.wts.find? (isCliW c)).isSome) = true then ⟨S, op, 0, 11⟩
  else match S.pools.find? (isNameP name) with
    | none => ⟨S, op, 0, 12⟩
    | some x => match (cAsked S op c x.nm).1.srv.find? (isCliV c) with
      | some s => ⟨(cAsked S op c x.nm).1, (cAsked S op c x.nm).2, s.id, 0⟩
      | none => if x.wt < (cntG (isPoolW x.nm) (cAsked S op c x.nm).1.wts : Int) then ⟨cQuit (cAsked S op c x.nm).1 c, (cAsked S op c x.nm).2, 0, 13⟩
        else ⟨(cAsked S op c x.nm).1, (cAsked S op c x.nm).2, 0, 0⟩
def rAsk (S : Sta) (nx : Int) (c : Int) (name : ByteArray) : Res :=
  if okCli c = false then ⟨S, nx, 0, 10⟩
  else if ((S.srv.find? (isCliV c)).isSome || (S.wts.find? (isCliW c)).isSome) = true then ⟨S, nx, 0, 11⟩
  else match S.pools.find? (isNameP name) with
    | none => ⟨S, nx, 0, 12⟩
    | some x => match (rAsked S nx c name).1.srv.find? (isCliV c) with
      | some s => ⟨(rAsked S nx c name).1, (rAsked S nx c name).2, s.id, 0⟩
      | none => if x.wt < (cntG (isPoolW name) (rAsked S nx c name).1.wts : Int) then ⟨S, nx, 0, 13⟩
        else ⟨(rAsked S nx c name).1, (rAsked S nx c name).2, 0, 0⟩
def Same (a b : Res) : Prop := a.S = b.S ∧ a.op + 1 = b.op ∧ a.id = b.id ∧ a.err = b.err
theorem none_of_find {α : Type} {p : α → Bool} {l : List α} (h : (l.find? p).isSome = false) : ∀ x ∈ l, p x = false := by
  intro x hx
  cases hp : p x with
  | false => rfl
  | true =>
    have : (l.find? p).isSome = true := List.find?_isSome.2 ⟨x, hx, hp⟩
    rw [h] at this
    simp at this
theorem ask_eq {S : Sta} {op : Int} (hI : Inv S op) (hst : Still S op) (c : Int) (name : ByteArray) :
    Same (cAsk S op c name) (rAsk S (op + 1) c name) ∧ Inv (cAsk S op c name).S (cAsk S op c name).op ∧ Still (cAsk S op c name).S (cAsk S op c name).op := by
  unfold cAsk rAsk
  by_cases h0 : okCli c = false
  · rw [if_pos h0, if_pos h0]; exact ⟨⟨rfl, rfl, rfl, rfl⟩, hI, hst⟩
  · rw [if_neg h0, if_neg h0]
    by_cases h1 : ((S.srv.find? (isCliV c)).isSome || (S.wts.find? (isCliW c)).isSome) = true
    · rw [if_pos h1, if_pos h1]; exact ⟨⟨rfl, rfl, rfl, rfl⟩, hI, hst⟩
    · rw [if_neg h1, if_neg h1]
      cases hf : S.pools.find? (isNameP name) with
      | none => exact ⟨⟨rfl, rfl, rfl, rfl⟩, hI, hst⟩
      | some x =>
        have hx := find_name hf
        simp only
        rw [hx]
        have hc0 : c ≠ 0 := by
          intro e
          rw [e] at h0
          exact h0 (by decide)
        have hw : (S.wts.find? (isCliW c)).isSome = false := by
          cases hh : (S.wts.find? (isCliW c)).isSome with
          | false => rfl
          | true => rw [hh] at h1; simp at h1
        have hn : ∀ y ∈ S.wts, y.client ≠ c := by
          intro y hy e
          have := none_of_find hw y hy
          simp [isCliW, e] at this
        have hor := (ask_serve (c := (⟨c, name⟩ : Wtr)) hI hst hn hc0).2
        have hI1 : Inv (joined S c name) op := (ask_serve (c := (⟨c, name⟩ : Wtr)) hI hst hn hc0).1
        have hl : (S.wts ++ [(⟨c, name⟩ : Wtr)]).length = S.wts.length + 1 := by simp
        rw [hl] at hor
        have hor' : cAsked S op c name = (joined S c name, op) ∨ ∃ x ∈ (cAsked S op c name).1.srv, x.client = c := hor
        have he : ((cAsked S op c name).1, (cAsked S op c name).2 + 1) = rAsked S (op + 1) c name := (serve_eq (S.wts.length + 1) (joined S c name) op hI1).1
        have hI2 : Inv (cAsked S op c name).1 (cAsked S op c name).2 := (serve_eq (S.wts.length + 1) (joined S c name) op hI1).2
        have hs2 : Still (cAsked S op c name).1 (cAsked S op c name).2 := served_still (S.wts.length + 1) (joined S c name) op hI1 (by simp [joined])
        rw [← he]
        obtain ⟨⟨T, t⟩, hT⟩ : ∃ y, cAsked S op c name = y := ⟨_, rfl⟩
        rw [hT] at hor' hI2 hs2 ⊢
        simp only at hor' hI2 hs2 ⊢
        cases hh : T.srv.find? (isCliV c) with
        | some s => exact ⟨⟨rfl, rfl, rfl, rfl⟩, hI2, hs2⟩
        | none =>
          simp only
          have hno : ∀ y ∈ T.srv, isCliV c y = false := none_of_find (by rw [hh]; rfl)
          have hT1 : joined S c name = T ∧ op = t := by
            rcases hor' with h | ⟨y, hy, hyc⟩
            · simp only [Prod.mk.injEq] at h; exact ⟨h.1.symm, h.2.symm⟩
            · have := hno y hy
              simp [isCliV, hyc] at this
          obtain ⟨rfl, rfl⟩ := hT1
          split
          · have hq : cQuit (joined S c name) c = S := by
              unfold cQuit joined
              simp only
              have : (S.wts ++ [(⟨c, name⟩ : Wtr)]).filter (fun x => !decide (x.client = c)) = S.wts := by
                rw [List.filter_append, List.filter_eq_self.2 (fun y hy => by simp [hn y hy])]
                simp
              rw [this]
            refine ⟨⟨hq, rfl, rfl, rfl⟩, ?_, ?_⟩
            · show Inv (cQuit _ c) op
              rw [hq]; exact hI
            · show Still (cQuit _ c) op
              rw [hq]; exact hst
          · exact ⟨⟨rfl, rfl, rfl, rfl⟩, hI2, hs2⟩
def cLeave (S : Sta) (op : Int) (c : Int) : Res := if okCli c = false then ⟨S, op, 0, 10⟩ else if (S.wts.find? (isCliW c)).isSome = false then ⟨S, op, 0, 14⟩ else ⟨cQuit S c, op, 0, 0⟩
def rLeave (S : Sta) (nx : Int) (c : Int) : Res := if okCli c = false then ⟨S, nx, 0, 10⟩ else match S.wts.findIdx? (isCliW c) with | none => ⟨S, nx, 0, 14⟩ | some i => ⟨rLeft S i, nx, 0, 0⟩
theorem still_sub {S : Sta} {op : Int} {l : List Wtr} (hst : Still S op) (h : ∀ x ∈ l, x ∈ S.wts) : Still { S with wts := l } op := by
  unfold Still at *
  rw [first_none] at hst ⊢
  intro d hd
  have h2 : (rLent S (op + 1) 0 d).isSome = (rLent { S with wts := l } (op + 1) 0 d).isSome := lent_wts
  rw [← h2]
  exact hst d (h d hd)
theorem leave_eq {S : Sta} {op : Int} (hI : Inv S op) (hst : Still S op) (c : Int) :
    Same (cLeave S op c) (rLeave S (op + 1) c) ∧ Inv (cLeave S op c).S (cLeave S op c).op ∧ Still (cLeave S op c).S (cLeave S op c).op := by
  unfold cLeave rLeave
  by_cases h0 : okCli c = false
  · rw [if_pos h0, if_pos h0]; exact ⟨⟨rfl, rfl, rfl, rfl⟩, hI, hst⟩
  · rw [if_neg h0, if_neg h0]
    obtain ⟨f1, f2⟩ := find_idx (isCliW c) S.wts
    cases hk : S.wts.findIdx? (isCliW c) with
    | none => rw [f2 hk]; exact ⟨⟨rfl, rfl, rfl, rfl⟩, hI, hst⟩
    | some i =>
      obtain ⟨s, hs, hs2⟩ := f1 i hk
      rw [hs2]
      simp only [Option.isSome_some, Bool.true_eq_false, if_false]
      have hc : s.client = c := by have := List.find?_some hs2; simpa [isCliW] using this
      have hq : cQuit S c = rLeft S i := by
        unfold cQuit rLeft
        rw [← hc, quit_place S.wts hI.cli i s hs]
      refine ⟨⟨hq, rfl, rfl, rfl⟩, ?_, ?_⟩
      · show Inv (cQuit S c) op
        rw [hq]
        exact ⟨hI.ids, hI.low, hI.op0, hI.cli.sublist (List.eraseIdx_sublist _ _)⟩
      · show Still (cQuit S c) op
        rw [hq]
        exact still_sub hst (fun x hx => (List.eraseIdx_sublist _ _).subset hx)
def cCrash (S : Sta) (op : Int) (id : Int) : Res := if (S.srv.find? (fun x => x.id == id)).isSome = false then ⟨S, op, 0, 15⟩ else ⟨(cServe S.wts.length (cShut S id) op).1, (cServe S.wts.length (cShut S id) op).2, 0, 0⟩
def rCrash (S : Sta) (nx : Int) (id : Int) : Res := match S.srv.findIdx? (fun x => x.id == id) with | none => ⟨S, nx, 0, 15⟩ | some i => ⟨(rServed S.wts.length (rClosed S i) nx).1, (rServed S.wts.length (rClosed S i) nx).2, 0, 0⟩
theorem inv_closed {S : Sta} {op : Int} (hI : Inv S op) (i : Nat) : Inv (rClosed S i) op :=
  ⟨hI.ids.sublist (List.eraseIdx_sublist _ _), fun x hx => hI.low x ((List.eraseIdx_sublist _ _).subset hx), hI.op0, hI.cli⟩
theorem crash_eq {S : Sta} {op : Int} (hI : Inv S op) (hst : Still S op) (id : Int) :
    Same (cCrash S op id) (rCrash S (op + 1) id) ∧ Inv (cCrash S op id).S (cCrash S op id).op ∧ Still (cCrash S op id).S (cCrash S op id).op := by
  unfold cCrash rCrash
  obtain ⟨f1, f2⟩ := find_idx (fun x : Srv => x.id == id) S.srv
  cases hk : S.srv.findIdx? (fun x => x.id == id) with
  | none => rw [f2 hk]; exact ⟨⟨rfl, rfl, rfl, rfl⟩, hI, hst⟩
  | some i =>
    obtain ⟨s, hs, hs2⟩ := f1 i hk
    rw [hs2]
    simp only [Option.isSome_some, Bool.true_eq_false, if_false]
    have hc : s.id = id := by have := List.find?_some hs2; simpa using this
    have hq : cShut S id = rClosed S i := by
      unfold cShut rClosed
      rw [← hc, shut_place S.srv hI.ids i s hs]
    rw [hq]
    have hI1 := inv_closed hI i
    obtain ⟨he, hI2⟩ := serve_eq S.wts.length (rClosed S i) op hI1
    rw [← he]
    exact ⟨⟨rfl, rfl, rfl, rfl⟩, hI2, served_still S.wts.length (rClosed S i) op hI1 (Nat.le_refl _)⟩
def isSur (S : Sta) (s : Srv) : Bool :=
  match S.pools.find? (isNameP s.pool) with
  | none => true
  | some x => !decide (s.far = x.fr) || decide (x.sz < (cntG (isPoolV s.pool) S.srv : Int)) || decide (S.bud < (S.srv.length : Int))
def cDone (S : Sta) (op : Int) (c : Int) : Res :=
  if okCli c = false then ⟨S, op, 0, 10⟩
  else match S.srv.find? (isCliV c) with
    | none => ⟨S, op, 0, 14⟩
    | some s => let T := if isSur (cHand S s.id 0) s = true then cShut (cHand S s.id 0) s.id else cHand S s.id 0
      ⟨(cServe S.wts.length T op).1, (cServe S.wts.length T op).2, 0, 0⟩
def rDone (S : Sta) (nx : Int) (c : Int) : Res :=
  if okCli c = false then ⟨S, nx, 0, 10⟩
  else match S.srv.findIdx? (isCliV c) with
    | none => ⟨S, nx, 0, 14⟩
    | some i => match S.srv[i]? with
      | none => ⟨S, nx, 0, 14⟩
      | some s => let T := if isSur (rSet S i 0) s = true then rClosed (rSet S i 0) i else rSet S i 0
        ⟨(rServed S.wts.length T nx).1, (rServed S.wts.length T nx).2, 0, 0⟩
theorem mod_get : ∀ (l : List Srv) (k : Nat) (c : Int) (s : Srv), l[k]? = some s → (l.modify k (fun x => { x with client := c }))[k]? = some { s with client := c }
  | [], k, c, s, h => by simp at h
  | y :: r, 0, c, s, h => by simp at h; subst h; simp
  | y :: r, k + 1, c, s, h => by
    simp only [List.modify_succ_cons, List.getElem?_cons_succ]
    exact mod_get r k c s (by simpa using h)
theorem inv_set {S : Sta} {op : Int} (hI : Inv S op) (k : Nat) (c : Int) : Inv (rSet S k c) op :=
  ⟨mod_ids _ _ _ hI.ids, fun x hx => by
    obtain ⟨z, hz, e, _⟩ := mod_mem _ _ _ _ hx
    rw [e]; exact hI.low z hz, hI.op0, hI.cli⟩
theorem done_eq {S : Sta} {op : Int} (hI : Inv S op) (hst : Still S op) (c : Int) :
    Same (cDone S op c) (rDone S (op + 1) c) ∧ Inv (cDone S op c).S (cDone S op c).op ∧ Still (cDone S op c).S (cDone S op c).op := by
  unfold cDone rDone
  by_cases h0 : okCli c = false
  · rw [if_pos h0, if_pos h0]; exact ⟨⟨rfl, rfl, rfl, rfl⟩, hI, hst⟩
  · rw [if_neg h0, if_neg h0]
    obtain ⟨f1, f2⟩ := find_idx (isCliV c) S.srv
    cases hk : S.srv.findIdx? (isCliV c) with
    | none => rw [f2 hk]; exact ⟨⟨rfl, rfl, rfl, rfl⟩, hI, hst⟩
    | some i =>
      obtain ⟨s, hs, hs2⟩ := f1 i hk
      rw [hs2]
      simp only
      rw [hs]
      simp only
      have hh : cHand S s.id 0 = rSet S i 0 := by
        unfold cHand rSet
        rw [hand_place S.srv hI.ids i s 0 hs]
      have hI1 := inv_set hI i 0
      have hsh : cShut (rSet S i 0) s.id = rClosed (rSet S i 0) i := by
        unfold cShut rClosed
        have hg := mod_get S.srv i 0 s hs
        exact congrArg (fun l => ({ rSet S i 0 with srv := l } : Sta)) (shut_place (rSet S i 0).srv hI1.ids i { s with client := 0 } hg)
      rw [hh, hsh]
      have hI2 : Inv (if isSur (rSet S i 0) s = true then rClosed (rSet S i 0) i else rSet S i 0) op := by
        split
        · exact inv_closed hI1 i
        · exact hI1
      have hw : (if isSur (rSet S i 0) s = true then rClosed (rSet S i 0) i else rSet S i 0).wts = S.wts := by
        split <;> rfl
      obtain ⟨T, hT⟩ : ∃ T, (if isSur (rSet S i 0) s = true then rClosed (rSet S i 0) i else rSet S i 0) = T := ⟨_, rfl⟩
      rw [hT] at hI2 hw ⊢
      obtain ⟨he, hI3⟩ := serve_eq S.wts.length T op hI2
      rw [← he]
      exact ⟨⟨rfl, rfl, rfl, rfl⟩, hI3, served_still S.wts.length T op hI2 (by rw [hw]; exact Nat.le_refl _)⟩
end Lw
end Go.Proofs.YtohbonfngeblkaaGreat
