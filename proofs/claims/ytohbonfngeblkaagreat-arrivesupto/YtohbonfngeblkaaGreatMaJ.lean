import Derived.Test.YtohbonfngeblkaaGreatMaI
namespace Go.Proofs.YtohbonfngeblkaaGreat
open Go.RowKit
namespace Lw
open Co
structure Res where
  S : Sta
  op : Int
  id : Int
  err : Nat
def okCli (c : Int) : Bool := decide (1 ≤ c) && decide (c ≤ 99)
def joined (S : Sta) (c : Int) (nm : ByteArray) : Sta := { S with wts := S.wts ++ [(⟨c, nm⟩ : Wtr)] }
def cAsked (S : Sta) (op : Int) (c : Int) (nm : ByteArray) : Sta × Int := cServe (S.wts.length + 1) (joined S c nm) op
def rAsked (S : Sta) (nx : Int) (c : Int) (nm : ByteArray) : Sta × Int := rServed (S.wts.length + 1) (joined S c nm) nx
def cAsk (S : Sta) (op : Int) (c : Int) (name : ByteArray) : Res :=
  if okCli c = false then ⟨S, op, 0, 10⟩
  else if ((S.srv.find? (isCliV c)).isSome || (S.wts.find? (isCliW c)).isSome) = true then ⟨S, op, 0, 11⟩
  else match S.pools.find? (isNameP name) with
    | none => ⟨S, op, 0, 12⟩
    | some x => match (cAsked S op c x.nm).1.srv.find? (isCliV c) with
      | some s => ⟨(cAsked S op c x.nm).1, (cAsked S op c x.nm).2, s.id, 0⟩
      | none => if x.wt < (cntG (isPoolW x.nm) (cAsked S op c x.nm).1.wts : Int) then ⟨cQuit (cAsked S op c x.nm).1 c, (cAsked S op c x.nm).2, 0, 13⟩
        else ⟨(cAsked S op c x.nm).1, (cAsked S op c x.nm).2, 0, 0⟩
def rAsk (S : Sta) (nx : Int) (c : Int) (name : ByteArray) : Res :=
  if okCli c = false then ⟨S, nx, 0, 10⟩
  else if ((S.srv.find? (isCliV c)).isSome || (S.wts.find? (isCliW c)).isSome) = true then ⟨S, nx, 0, 11⟩
  else match S.pools.find? (isNameP name) with
    | none => ⟨S, nx, 0, 12⟩
    | some x => match (rAsked S nx c name).1.srv.find? (isCliV c) with
      | some s => ⟨(rAsked S nx c name).1, (rAsked S nx c name).2, s.id, 0⟩
      | none => if x.wt < (cntG (isPoolW name) (rAsked S nx c name).1.wts : Int) then ⟨S, nx, 0, 13⟩
        else ⟨(rAsked S nx c name).1, (rAsked S nx c name).2, 0, 0⟩
def Same (a b : Res) : Prop := a.S = b.S ∧ a.op + 1 = b.op ∧ a.id = b.id ∧ a.err = b.err
theorem none_of_find {α : Type} {p : α → Bool} {l : List α} (h : (l.find? p).isSome = false) : ∀ x ∈ l, p x = false := by
  intro x hx
  cases hp : p x with
  | false => rfl
  | true =>
    have : (l.find? p).isSome = true := List.find?_isSome.2 ⟨x, hx, hp⟩
    rw [h] at this
    simp at this
theorem ask_eq {S : Sta} {op : Int} (hI : Inv S op) (hst : Still S op) (c : Int) (name : ByteArray) :
    Same (cAsk S op c name) (rAsk S (op + 1) c name) ∧ Inv (cAsk S op c name).S (cAsk S op c name).op ∧ Still (cAsk S op c name).S (cAsk S op c name).op := by
  unfold cAsk rAsk
  by_cases h0 : okCli c = false
  · rw [if_pos h0, if_pos h0]; exact ⟨⟨rfl, rfl, rfl, rfl⟩, hI, hst⟩
  · rw [if_neg h0, if_neg h0]
    by_cases h1 : ((S.srv.find? (isCliV c)).isSome || (S.wts.find? (isCliW c)).isSome) = true
    · rw [if_pos h1, if_pos h1]; exact ⟨⟨rfl, rfl, rfl, rfl⟩, hI, hst⟩
    · rw [if_neg h1, if_neg h1]
      cases hf : S.pools.find? (isNameP name) with
      | none => exact ⟨⟨rfl, rfl, rfl, rfl⟩, hI, hst⟩
      | some x =>
        have hx := find_name hf
        simp only
        rw [hx]
        have hc0 : c ≠ 0 := by
          intro e
          rw [e] at h0
          exact h0 (by decide)
        have hw : (S.wts.find? (isCliW c)).isSome = false := by
          cases hh : (S.wts.find? (isCliW c)).isSome with
          | false => rfl
          | true => rw [hh] at h1; simp at h1
        have hn : ∀ y ∈ S.wts, y.client ≠ c := by
          intro y hy e
          have := none_of_find hw y hy
          simp [isCliW, e] at this
        have hor := (ask_serve (c := (⟨c, name⟩ : Wtr)) hI hst hn hc0).2
        have hI1 : Inv (joined S c name) op := (ask_serve (c := (⟨c, name⟩ : Wtr)) hI hst hn hc0).1
        have hl : (S.wts ++ [(⟨c, name⟩ : Wtr)]).length = S.wts.length + 1 := by simp
        rw [hl] at hor
        have hor' : cAsked S op c name = (joined S c name, op) ∨ ∃ x ∈ (cAsked S op c name).1.srv, x.client = c := hor
        have he : ((cAsked S op c name).1, (cAsked S op c name).2 + 1) = rAsked S (op + 1) c name := (serve_eq (S.wts.length + 1) (joined S c name) op hI1).1
        have hI2 : Inv (cAsked S op c name).1 (cAsked S op c name).2 := (serve_eq (S.wts.length + 1) (joined S c name) op hI1).2
        have hs2 : Still (cAsked S op c name).1 (cAsked S op c name).2 := served_still (S.wts.length + 1) (joined S c name) op hI1 (by simp [joined])
        rw [← he]
        obtain ⟨⟨T, t⟩, hT⟩ : ∃ y, cAsked S op c name = y := ⟨_, rfl⟩
        rw [hT] at hor' hI2 hs2 ⊢
        simp only at hor' hI2 hs2 ⊢
        cases hh : T.srv.find? (isCliV c) with
        | some s => exact ⟨⟨rfl, rfl, rfl, rfl⟩, hI2, hs2⟩
        | none =>
          simp only
          have hno : ∀ y ∈ T.srv, isCliV c y = false := none_of_find (by rw [hh]; rfl)
          have hT1 : joined S c name = T ∧ op = t := by
            rcases hor' with h | ⟨y, hy, hyc⟩
            · simp only [Prod.mk.injEq] at h; exact ⟨h.1.symm, h.2.symm⟩
            · have := hno y hy
              simp [isCliV, hyc] at this
          obtain ⟨rfl, rfl⟩ := hT1
          split
          · have hq : cQuit (joined S c name) c = S := by
              unfold cQuit joined
              simp only
              have : (S.wts ++ [(⟨c, name⟩ : Wtr)]).filter (fun x => !decide (x.client = c)) = S.wts := by
                rw [List.filter_append, List.filter_eq_self.2 (fun y hy => by simp [hn y hy])]
                simp
              rw [this]
            refine ⟨⟨hq, rfl, rfl, rfl⟩, ?_, ?_⟩
            · show Inv (cQuit _ c) op
              rw [hq]; exact hI
            · show Still (cQuit _ c) op
              rw [hq]; exact hst
          · exact ⟨⟨rfl, rfl, rfl, rfl⟩, hI2, hs2⟩
def cLeave (S : Sta) (op : Int) (c : Int) : Res := if okCli c = false then ⟨S, op, 0, 10⟩ else if (S.wts.find? (isCliW c)).isSome = false then ⟨S, op, 0, 14⟩ else ⟨cQuit S c, op, 0, 0⟩
def rLeave (S : Sta) (nx : Int) (c : Int) : Res := if okCli c = false then ⟨S, nx, 0, 10⟩ else match S.wts.findIdx? (isCliW c) with | none => ⟨S, nx, 0, 14⟩ | some i => ⟨rLeft S i, nx, 0, 0⟩
theorem still_sub {S : Sta} {op : Int} {l : List Wtr} (hst : Still S op) (h : ∀ x ∈ l, x ∈ S.wts) : Still { S with wts := l } op := by
  unfold Still at *
  rw [first_none] at hst ⊢
  intro d hd
  have h2 : (rLent S (op + 1) 0 d).isSome = (rLent { S with wts := l } (op + 1) 0 d).isSome := lent_wts
  rw [← h2]
  exact hst d (h d hd)
theorem leave_eq {S : Sta} {op : Int} (hI : Inv S op) (hst : Still S op) (c : Int) :
    Same (cLeave S op c) (rLeave S (op + 1) c) ∧ Inv (cLeave S op c).S (cLeave S op c).op ∧ Still (cLeave S op c).S (cLeave S op c).op := by
  unfold cLeave rLeave
  by_cases h0 : okCli c = false
  · rw [if_pos h0, if_pos h0]; exact ⟨⟨rfl, rfl, rfl, rfl⟩, hI, hst⟩
  · rw [if_neg h0, if_neg h0]
    obtain ⟨f1, f2⟩ := find_idx (isCliW c) S.wts
    cases hk : S.wts.findIdx? (isCliW c) with
    | none => rw [f2 hk]; exact ⟨⟨rfl, rfl, rfl, rfl⟩, hI, hst⟩
    | some i =>
      obtain ⟨s, hs, hs2⟩ := f1 i hk
      rw [hs2]
      simp only [Option.isSome_some, Bool.true_eq_false, if_false]
      have hc : s.client = c := by have := List.find?_some hs2; simpa [isCliW] using this
      have hq : cQuit S c = rLeft S i := by
        unfold cQuit rLeft
        rw [← hc, quit_place S.wts hI.cli i s hs]
      refine ⟨⟨hq, rfl, rfl, rfl⟩, ?_, ?_⟩
      · show Inv (cQuit S c) op
        rw [hq]
        exact ⟨hI.ids, hI.low, hI.op0, hI.cli.sublist (List.eraseIdx_sublist _ _)⟩
      · show Still (cQuit S c) op
        rw [hq]
        exact still_sub hst (fun x hx => (List.eraseIdx_sublist _ _).subset hx)
def cCrash (S : Sta) (op : Int) (id : Int) : Res := if (S.srv.find? (fun x => x.id == id)).isSome = false then ⟨S, op, 0, 15⟩ else ⟨(cServe S.wts.length (cShut S id) op).1, (cServe S.wts.length (cShut S id) op).2, 0, 0⟩
def rCrash (S : Sta) (nx : Int) (id : Int) : Res := match S.srv.findIdx? (fun x => x.id == id) with | none => ⟨S, nx, 0, 15⟩ | some i => ⟨(rServed S.wts.length (rClosed S i) nx).1, (rServed S.wts.length (rClosed S i) nx).2, 0, 0⟩
theorem inv_closed {S : Sta} {op : Int} (hI : Inv S op) (i : Nat) : Inv (rClosed S i) op :=
  ⟨hI.ids.sublist (List.eraseIdx_sublist _ _), fun x hx => hI.low x ((List.eraseIdx_sublist _ _).subset hx), hI.op0, hI.cli⟩
theorem crash_eq {S : Sta} {op : Int} (hI : Inv S op) (hst : Still S op) (id : Int) :
    Same (cCrash S op id) (rCrash S (op + 1) id) ∧ Inv (cCrash S op id).S (cCrash S op id).op ∧ Still (cCrash S op id).S (cCrash S op id).op := by
  unfold cCrash rCrash
  obtain ⟨f1, f2⟩ := find_idx (fun x : Srv => x.id == id) S.srv
  cases hk : S.srv.findIdx? (fun x => x.id == id) with
  | none => rw [f2 hk]; exact ⟨⟨rfl, rfl, rfl, rfl⟩, hI, hst⟩
  | some i =>
    obtain ⟨s, hs, hs2⟩ := f1 i hk
    rw [hs2]
    simp only [Option.isSome_some, Bool.true_eq_false, if_false]
    have hc : s.id = id := by have := List.find?_some hs2; simpa using this
    have hq : cShut S id = rClosed S i := by
      unfold cShut rClosed
      rw [← hc, shut_place S.srv hI.ids i s hs]
    rw [hq]
    have hI1 := inv_closed hI i
    obtain ⟨he, hI2⟩ := serve_eq S.wts.length (rClosed S i) op hI1
    rw [← he]
    exact ⟨⟨rfl, rfl, rfl, rfl⟩, hI2, served_still S.wts.length (rClosed S i) op hI1 (Nat.le_refl _)⟩
def isSur (S : Sta) (s : Srv) : Bool :=
  match S.pools.find? (isNameP s.pool) with
  | none => true
  | some x => !decide (s.far = x.fr) || decide (x.sz < (cntG (isPoolV s.pool) S.srv : Int)) || decide (S.bud < (S.srv.length : Int))
def cDone (S : Sta) (op : Int) (c : Int) : Res :=
  if okCli c = false then ⟨S, op, 0, 10⟩
  else match S.srv.find? (isCliV c) with
    | none => ⟨S, op, 0, 14⟩
    | some s => let T := if isSur (cHand S s.id 0) s = true then cShut (cHand S s.id 0) s.id else cHand S s.id 0
      ⟨(cServe S.wts.length T op).1, (cServe S.wts.length T op).2, 0, 0⟩
def rDone (S : Sta) (nx : Int) (c : Int) : Res :=
  if okCli c = false then ⟨S, nx, 0, 10⟩
  else match S.srv.findIdx? (isCliV c) with
    | none => ⟨S, nx, 0, 14⟩
    | some i => match S.srv[i]? with
      | none => ⟨S, nx, 0, 14⟩
      | some s => let T := if isSur (rSet S i 0) s = true then rClosed (rSet S i 0) i else rSet S i 0
        ⟨(rServed S.wts.length T nx).1, (rServed S.wts.length T nx).2, 0, 0⟩
theorem mod_get : ∀ (l : List Srv) (k : Nat) (c : Int) (s : Srv), l[k]? = some s → (l.modify k (fun x => { x with client := c }))[k]? = some { s with client := c }
  | [], k, c, s, h => by simp at h
  | y :: r, 0, c, s, h => by simp at h; subst h; simp
  | y :: r, k + 1, c, s, h => by
    simp only [List.modify_succ_cons, List.getElem?_cons_succ]
    exact mod_get r k c s (by simpa using h)
theorem inv_set {S : Sta} {op : Int} (hI : Inv S op) (k : Nat) (c : Int) : Inv (rSet S k c) op :=
  ⟨mod_ids _ _ _ hI.ids, fun x hx => by
    obtain ⟨z, hz, e, _⟩ := mod_mem _ _ _ _ hx
    rw [e]; exact hI.low z hz, hI.op0, hI.cli⟩
theorem done_eq {S : Sta} {op : Int} (hI : Inv S op) (hst : Still S op) (c : Int) :
    Same (cDone S op c) (rDone S (op + 1) c) ∧ Inv (cDone S op c).S (cDone S op c).op ∧ Still (cDone S op c).S (cDone S op c).op := by
  unfold cDone rDone
  by_cases h0 : okCli c = false
  · rw [if_pos h0, if_pos h0]; exact ⟨⟨rfl, rfl, rfl, rfl⟩, hI, hst⟩
  · rw [if_neg h0, if_neg h0]
    obtain ⟨f1, f2⟩ := find_idx (isCliV c) S.srv
    cases hk : S.srv.findIdx? (isCliV c) with
    | none => rw [f2 hk]; exact ⟨⟨rfl, rfl, rfl, rfl⟩, hI, hst⟩
    | some i =>
      obtain ⟨s, hs, hs2⟩ := f1 i hk
      rw [hs2]
      simp only
      rw [hs]
      simp only
      have hh : cHand S s.id 0 = rSet S i 0 := by
        unfold cHand rSet
        rw [hand_place S.srv hI.ids i s 0 hs]
      have hI1 := inv_set hI i 0
      have hsh : cShut (rSet S i 0) s.id = rClosed (rSet S i 0) i := by
        unfold cShut rClosed
        have hg := mod_get S.srv i 0 s hs
        exact congrArg (fun l => ({ rSet S i 0 with srv := l } : Sta)) (shut_place (rSet S i 0).srv hI1.ids i { s with client := 0 } hg)
      rw [hh, hsh]
      have hI2 : Inv (if isSur (rSet S i 0) s = true then rClosed (rSet S i 0) i else rSet S i 0) op := by
        split
        · exact inv_closed hI1 i
        · exact hI1
      have hw : (if isSur (rSet S i 0) s = true then rClosed (rSet S i 0) i else rSet S i 0).wts = S.wts := by
        split <;> rfl
      obtain ⟨T, hT⟩ : ∃ T, (if isSur (rSet S i 0) s = true then rClosed (rSet S i 0) i else rSet S i 0) = T := ⟨_, rfl⟩
      rw [hT] at hI2 hw ⊢
      obtain ⟨he, hI3⟩ := serve_eq S.wts.length T op hI2
      rw [← he]
      exact ⟨⟨rfl, rfl, rfl, rfl⟩, hI3, served_still S.wts.length T op hI2 (by rw [hw]; exact Nat.le_refl _)⟩
end Lw
end Go.Proofs.YtohbonfngeblkaaGreat
