import Derived.Test.YtohbonfngeblkaaGreatMaH
namespace Go.Proofs.YtohbonfngeblkaaGreat
open Go.RowKit
namespace Lw
open Co
def rLeft (S : Sta) (i : Nat) : Sta := { S with wts := S.wts.eraseIdx i }
def rClosed (S : Sta) (i : Nat) : Sta := { S with srv := S.srv.eraseIdx i }
def rOpened (S : Sta) (nx : Int) (x : Pl) (client : Int) : Sta := { S with srv := S.srv ++ [⟨nx, x.nm, x.fr, client⟩] }
def rSet (S : Sta) (k : Nat) (c : Int) : Sta := { S with srv := S.srv.modify k (fun x => { x with client := c }) }
def rRoom (S : Sta) : Option (Option Nat) := if (S.srv.length : Int) < S.bud then some none else match S.srv.findIdx? (isIdle ⟨#[]⟩ true) with | none => none | some k => some (some k)
def rLent (S : Sta) (nx : Int) (i : Nat) (c : Wtr) : Option (Sta × Int) :=
  match S.pools.find? (isNameP c.pool) with
  | none => none
  | some x => match S.srv.findIdx? (isIdle c.pool false) with
    | some k => some (rSet (rLeft S i) k c.client, nx)
    | none => if x.sz ≤ (cntG (isPoolV c.pool) S.srv : Int) ∨ S.bud < (S.srv.length : Int) then none
      else match rRoom S with
        | none => none
        | some none => some (rOpened (rLeft S i) nx x c.client, nx + 1)
        | some (some k) => some (rOpened (rClosed (rLeft S i) k) nx x c.client, nx + 1)
def rFirst (S : Sta) (nx : Int) : Nat → List Wtr → Option (Sta × Int)
  | _, [] => none
  | i, c :: r => match rLent S nx i c with | some y => some y | none => rFirst S nx (i + 1) r
def rServed : Nat → Sta → Int → Sta × Int
  | 0, S, nx => (S, nx)
  | f + 1, S, nx => match rFirst S nx 0 S.wts with | none => (S, nx) | some y => rServed f y.1 y.2
def cHand (S : Sta) (id c : Int) : Sta := { S with srv := S.srv.map fun x => if x.id = id then { x with client := c } else x }
def cShut (S : Sta) (id : Int) : Sta := { S with srv := S.srv.filter fun x => !decide (x.id = id) }
def cQuit (S : Sta) (c : Int) : Sta := { S with wts := S.wts.filter fun x => !decide (x.client = c) }
def cOpen (S : Sta) (op : Int) (x : Pl) (c : Int) : Sta := { S with srv := S.srv ++ [⟨op + 1, x.nm, x.fr, c⟩] }
def cGive (S : Sta) (op : Int) (c : Wtr) : Option (Sta × Int) :=
  match S.pools.find? (isNameP c.pool) with
  | none => none
  | some x => match S.srv.find? (fun s => isPoolV x.nm s && isCliV 0 s) with
    | some s => some (cHand S s.id c.client, op)
    | none => if x.sz ≤ (cntG (isPoolV x.nm) S.srv : Int) then none
      else if (S.srv.length : Int) < S.bud then some (cOpen S op x c.client, op + 1)
      else match S.srv.find? (isCliV 0) with
        | none => none
        | some s => if S.bud < (S.srv.length : Int) then none else some (cOpen (cShut S s.id) op x c.client, op + 1)
def cFirst (S : Sta) (op : Int) : List Wtr → Option (Sta × Int)
  | [] => none
  | c :: r => match cGive S op c with | some y => some (cQuit y.1 c.client, y.2) | none => cFirst S op r
def cServe : Nat → Sta → Int → Sta × Int
  | 0, S, op => (S, op)
  | f + 1, S, op => match cFirst S op S.wts with | none => (S, op) | some y => cServe f y.1 y.2
structure Inv (S : Sta) (op : Int) : Prop where
  ids : S.srv.Pairwise (fun a b => a.id < b.id)
  low : ∀ x ∈ S.srv, 1 ≤ x.id ∧ x.id ≤ op
  op0 : 0 ≤ op
  cli : S.wts.Pairwise (fun a b => a.client ≠ b.client)
theorem ba_ext' {a b : ByteArray} (h : a.toList = b.toList) : a = b := by
  rw [ByteArray.toList_eq, ByteArray.toList_eq] at h
  cases a; cases b
  simp at h
  rw [h]
theorem find_name {S : Sta} {n : ByteArray} {x : Pl} (h : S.pools.find? (isNameP n) = some x) : x.nm = n := by
  have := List.find?_some h
  simp only [isNameP, beq_iff_eq] at this
  exact ba_ext' this
theorem find_idx {α : Type} (p : α → Bool) : ∀ l : List α, (∀ k, l.findIdx? p = some k → ∃ x, l[k]? = some x ∧ l.find? p = some x) ∧ (l.findIdx? p = none → l.find? p = none)
  | [] => by simp
  | y :: r => by
    obtain ⟨h1, h2⟩ := find_idx p r
    cases hp : p y with
    | true =>
      refine ⟨fun k hk => ?_, fun h => ?_⟩
      · simp [List.findIdx?_cons, hp] at hk
        subst hk
        exact ⟨y, rfl, by simp [hp]⟩
      · simp [List.findIdx?_cons, hp] at h
    | false =>
      refine ⟨fun k hk => ?_, fun h => ?_⟩
      · simp only [List.findIdx?_cons, hp] at hk
        cases hr : r.findIdx? p with
        | none => rw [hr] at hk; simp at hk
        | some j =>
          rw [hr] at hk
          simp at hk
          subst hk
          obtain ⟨x, hx, hx2⟩ := h1 j hr
          exact ⟨x, by simpa using hx, by simp [hp, hx2]⟩
      · simp only [List.findIdx?_cons, hp] at h
        have : r.findIdx? p = none := by
          cases hr : r.findIdx? p with
          | none => rfl
          | some j => rw [hr] at h; simp at h
        simp [hp, h2 this]
theorem hand_place : ∀ (l : List Srv), l.Pairwise (fun a b => a.id < b.id) → ∀ (k : Nat) (s : Srv) (c : Int), l[k]? = some s → (l.map fun x => if x.id = s.id then { x with client := c } else x) = l.modify k (fun x => { x with client := c })
  | [], _, k, s, c, h => by simp at h
  | y :: r, hp, 0, s, c, h => by
    simp at h; subst h
    have h1 := (List.pairwise_cons.1 hp).1
    simp only [List.map_cons, if_true, List.modify_zero_cons]
    congr 1
    refine (List.map_congr_left (fun x hx => ?_)).trans (List.map_id _)
    rw [if_neg (by have := h1 x hx; omega)]
    rfl
  | y :: r, hp, k + 1, s, c, h => by
    have h1 := (List.pairwise_cons.1 hp).1
    have hs : s ∈ r := List.mem_of_getElem? (by simpa using h)
    have ih := hand_place r (List.pairwise_cons.1 hp).2 k s c (by simpa using h)
    simp only [List.map_cons, List.modify_succ_cons]
    rw [ih, if_neg (by have := h1 s hs; omega)]
theorem shut_place : ∀ (l : List Srv), l.Pairwise (fun a b => a.id < b.id) → ∀ (k : Nat) (s : Srv), l[k]? = some s → (l.filter fun x => !decide (x.id = s.id)) = l.eraseIdx k
  | [], _, k, s, h => by simp at h
  | y :: r, hp, 0, s, h => by
    simp at h; subst h
    have h1 := (List.pairwise_cons.1 hp).1
    simp only [List.filter_cons, decide_true, Bool.not_true, Bool.false_eq_true, if_false, List.eraseIdx_zero, List.tail_cons]
    refine List.filter_eq_self.2 (fun x hx => ?_)
    have := h1 x hx
    simp; omega
  | y :: r, hp, k + 1, s, h => by
    have h1 := (List.pairwise_cons.1 hp).1
    have hs : s ∈ r := List.mem_of_getElem? (by simpa using h)
    have ih := shut_place r (List.pairwise_cons.1 hp).2 k s (by simpa using h)
    have := h1 s hs
    rw [List.filter_cons, if_pos (by simp; omega), ih]
    rfl
theorem quit_place : ∀ (l : List Wtr), l.Pairwise (fun a b => a.client ≠ b.client) → ∀ (k : Nat) (s : Wtr), l[k]? = some s → (l.filter fun x => !decide (x.client = s.client)) = l.eraseIdx k
  | [], _, k, s, h => by simp at h
  | y :: r, hp, 0, s, h => by
    simp at h; subst h
    have h1 := (List.pairwise_cons.1 hp).1
    simp only [List.filter_cons, decide_true, Bool.not_true, Bool.false_eq_true, if_false, List.eraseIdx_zero, List.tail_cons]
    refine List.filter_eq_self.2 (fun x hx => ?_)
    have := h1 x hx
    simp; omega
  | y :: r, hp, k + 1, s, h => by
    have h1 := (List.pairwise_cons.1 hp).1
    have hs : s ∈ r := List.mem_of_getElem? (by simpa using h)
    have ih := quit_place r (List.pairwise_cons.1 hp).2 k s (by simpa using h)
    have := h1 s hs
    rw [List.filter_cons, if_pos (by simp; omega), ih]
    rfl
theorem give_lent {S : Sta} {op : Int} (hI : Inv S op) {i : Nat} {c : Wtr} (hi : S.wts[i]? = some c) :
    (cGive S op c).map (fun y => (cQuit y.1 c.client, y.2 + 1)) = rLent S (op + 1) i c := by
  have hq : ∀ T : Sta, T.wts = S.wts → cQuit T c.client = rLeft T i := by
    intro T hT
    unfold cQuit rLeft
    rw [hT, quit_place S.wts hI.cli i c hi]
  unfold cGive rLent
  cases hf : S.pools.find? (isNameP c.pool) with
  | none => rfl
  | some x =>
    have hx := find_name hf
    have hp : (fun s => isPoolV x.nm s && isCliV 0 s) = isIdle c.pool false := by
      funext s
      simp only [isPoolV, isCliV, isIdle, hx, Bool.false_or]
      exact Bool.and_comm _ _
    have hp2 : isCliV 0 = isIdle ⟨#[]⟩ true := by
      funext s
      simp [isCliV, isIdle]
    simp only
    rw [hp, hp2, hx]
    obtain ⟨f1, f2⟩ := find_idx (isIdle c.pool false) S.srv
    cases hk : S.srv.findIdx? (isIdle c.pool false) with
    | some k =>
      obtain ⟨s, hs, hs2⟩ := f1 k hk
      rw [hs2]
      simp only [Option.map_some]
      congr 2
      unfold cQuit cHand rSet rLeft
      rw [quit_place S.wts hI.cli i c hi, hand_place S.srv hI.ids k s c.client hs]
    | none =>
      rw [f2 hk]
      simp only
      by_cases hz : x.sz ≤ (cntG (isPoolV c.pool) S.srv : Int)
      · rw [if_pos hz, if_pos (.inl hz)]; rfl
      · rw [if_neg hz]
        by_cases hb : (S.srv.length : Int) < S.bud
        · rw [if_pos hb, if_neg (by omega)]
          unfold rRoom
          rw [if_pos hb]
          simp only [Option.map_some]
          congr 2
          unfold cQuit cOpen rOpened rLeft
          rw [quit_place S.wts hI.cli i c hi]
        · rw [if_neg hb]
          obtain ⟨g1, g2⟩ := find_idx (isIdle ⟨#[]⟩ true) S.srv
          cases hj : S.srv.findIdx? (isIdle ⟨#[]⟩ true) with
          | none =>
            rw [g2 hj]
            simp only [Option.map_none]
            split
            · rfl
            · unfold rRoom; rw [if_neg hb, hj]
          | some j =>
            obtain ⟨s, hs, hs2⟩ := g1 j hj
            rw [hs2]
            simp only
            by_cases hbb : S.bud < (S.srv.length : Int)
            · rw [if_pos hbb, if_pos (.inr hbb)]; rfl
            · rw [if_neg hbb, if_neg (by omega)]
              unfold rRoom
              rw [if_neg hb, hj]
              simp only [Option.map_some]
              congr 2
              unfold cQuit cOpen cShut rOpened rClosed rLeft
              rw [quit_place S.wts hI.cli i c hi, shut_place S.srv hI.ids j s hs]
end Lw
end Go.Proofs.YtohbonfngeblkaaGreat
namespace Go.Proofs.YtohbonfngeblkaaGreat
open Go.RowKit
namespace Lw
open Co
theorem mod_mem : ∀ (l : List Srv) (k : Nat) (c : Int) (y : Srv), y ∈ l.modify k (fun x => { x with client := c }) → ∃ x ∈ l, y.id = x.id ∧ (y = x ∨ y.client = c)
  | [], k, c, y, h => by simp at h
  | x :: r, 0, c, y, h => by
    simp only [List.modify_zero_cons, List.mem_cons] at h
    rcases h with rfl | h
    · exact ⟨x, List.mem_cons_self, rfl, .inr rfl⟩
    · exact ⟨y, List.mem_cons_of_mem _ h, rfl, .inl rfl⟩
  | x :: r, k + 1, c, y, h => by
    simp only [List.modify_succ_cons, List.mem_cons] at h
    rcases h with rfl | h
    · exact ⟨y, List.mem_cons_self, rfl, .inl rfl⟩
    · obtain ⟨z, hz, h1, h2⟩ := mod_mem r k c y h
      exact ⟨z, List.mem_cons_of_mem _ hz, h1, h2⟩
theorem mod_ids : ∀ (l : List Srv) (k : Nat) (c : Int), l.Pairwise (fun a b => a.id < b.id) → (l.modify k (fun x => { x with client := c })).Pairwise (fun a b => a.id < b.id)
  | [], k, c, h => by simp
  | x :: r, 0, c, h => by
    obtain ⟨h1, h2⟩ := List.pairwise_cons.1 h
    simp only [List.modify_zero_cons]
    exact List.pairwise_cons.2 ⟨h1, h2⟩
  | x :: r, k + 1, c, h => by
    obtain ⟨h1, h2⟩ := List.pairwise_cons.1 h
    simp only [List.modify_succ_cons]
    refine List.pairwise_cons.2 ⟨fun y hy => ?_, mod_ids r k c h2⟩
    obtain ⟨z, hz, e, _⟩ := mod_mem r k c y hy
    rw [e]; exact h1 z hz
theorem mod_keep : ∀ (l : List Srv) (k : Nat) (c : Int) (s : Srv), l[k]? = some s → ∀ x ∈ l, x ≠ s → x ∈ l.modify k (fun x => { x with client := c })
  | [], k, c, s, h, _, _, _ => by simp at h
  | y :: r, 0, c, s, h, x, hx, hne => by
    simp at h; subst h
    simp only [List.modify_zero_cons]
    rcases List.mem_cons.1 hx with rfl | hx
    · exact absurd rfl hne
    · exact List.mem_cons_of_mem _ hx
  | y :: r, k + 1, c, s, h, x, hx, hne => by
    simp only [List.modify_succ_cons]
    rcases List.mem_cons.1 hx with rfl | hx
    · exact List.mem_cons_self
    · exact List.mem_cons_of_mem _ (mod_keep r k c s (by simpa using h) x hx hne)
theorem mod_at : ∀ (l : List Srv) (k : Nat) (c : Int) (s : Srv), l[k]? = some s → { s with client := c } ∈ l.modify k (fun x => { x with client := c })
  | [], k, c, s, h => by simp at h
  | y :: r, 0, c, s, h => by simp at h; subst h; simp
  | y :: r, k + 1, c, s, h => by
    simp only [List.modify_succ_cons]
    exact List.mem_cons_of_mem _ (mod_at r k c s (by simpa using h))
theorem erase_keep {α : Type} (l : List α) (k : Nat) (s : α) (h : l[k]? = some s) : ∀ x ∈ l, x ≠ s → x ∈ l.eraseIdx k := by
  intro x hx hne
  rw [List.mem_eraseIdx_iff_getElem?]
  obtain ⟨j, hj⟩ := List.getElem?_of_mem hx
  refine ⟨j, fun e => ?_, hj⟩
  subst e
  rw [h] at hj
  exact hne (Option.some.inj hj).symm
structure Step (S S' : Sta) (op nx : Int) (i : Nat) (c : Wtr) : Prop where
  inv : Inv S' (nx - 1)
  wts : S'.wts = S.wts.eraseIdx i
  pools : S'.pools = S.pools
  bud : S'.bud = S.bud
  rest : S'.plan = S.plan ∧ S'.begun = S.begun ∧ S'.back = S.back
  keep : ∀ x ∈ S.srv, x.client ≠ 0 → x ∈ S'.srv
  got : ∃ x ∈ S'.srv, x.client = c.client
  up : op + 1 ≤ nx ∧ nx ≤ op + 2
  len : (S'.srv.length : Int) ≤ max (S.srv.length : Int) S.bud
theorem lent_step {S S' : Sta} {op nx : Int} (hI : Inv S op) {i : Nat} {c : Wtr} (h : rLent S (op + 1) i c = some (S', nx)) : Step S S' op nx i c := by
  have hcl : (S.wts.eraseIdx i).Pairwise (fun a b => a.client ≠ b.client) := hI.cli.sublist (List.eraseIdx_sublist _ _)
  unfold rLent at h
  split at h
  · simp at h
  · rename_i x hx
    split at h
    · rename_i k hk
      simp only [Option.some.injEq, Prod.mk.injEq] at h
      obtain ⟨rfl, rfl⟩ := h
      obtain ⟨s, hs, hs2⟩ := (find_idx _ S.srv).1 k hk
      have hidle := List.find?_some hs2
      simp only [isIdle, Bool.and_eq_true, beq_iff_eq] at hidle
      refine ⟨⟨mod_ids _ _ _ hI.ids, fun y hy => ?_, by have := hI.op0; omega, hcl⟩, rfl, rfl, rfl, ⟨rfl, rfl, rfl⟩, fun y hy hc => ?_, ⟨_, mod_at _ _ _ _ hs, rfl⟩, by omega, ?_⟩
      · obtain ⟨z, hz, e, _⟩ := mod_mem _ _ _ _ hy
        rw [e]
        have := hI.low z hz
        omega
      · exact mod_keep _ _ _ _ hs y hy (fun e => hc (by rw [e]; exact hidle.1))
      · show ((S.srv.modify k _).length : Int) ≤ _
        rw [List.length_modify]; omega
    · split at h
      · simp at h
      · rename_i hno
        split at h
        · simp at h
        · rename_i hr
          simp only [Option.some.injEq, Prod.mk.injEq] at h
          obtain ⟨rfl, rfl⟩ := h
          have hlt : (S.srv.length : Int) < S.bud := by
            unfold rRoom at hr
            split at hr
            · assumption
            · split at hr <;> simp at hr
          refine ⟨⟨?_, fun y hy => ?_, by have := hI.op0; omega, hcl⟩, rfl, rfl, rfl, ⟨rfl, rfl, rfl⟩, fun y hy _ => ?_, ⟨⟨op + 1, x.nm, x.fr, c.client⟩, ?_, rfl⟩, by omega, ?_⟩
          · show (S.srv ++ [_]).Pairwise _
            rw [List.pairwise_append]
            refine ⟨hI.ids, by simp, fun a ha b hb => ?_⟩
            simp at hb; subst hb
            have := hI.low a ha
            show a.id < op + 1
            omega
          · have hy' : y ∈ S.srv ++ [⟨op + 1, x.nm, x.fr, c.client⟩] := hy
            rcases List.mem_append.1 hy' with hy' | hy'
            · have := hI.low y hy'; omega
            · simp at hy'; subst hy'; have := hI.op0; show 1 ≤ op + 1 ∧ op + 1 ≤ _; omega
          · show y ∈ S.srv ++ [_]
            exact List.mem_append_left _ hy
          · show _ ∈ S.srv ++ [_]
            simp
          · show ((S.srv ++ [_]).length : Int) ≤ _
            simp; omega
        · rename_i k hr
          simp only [Option.some.injEq, Prod.mk.injEq] at h
          obtain ⟨rfl, rfl⟩ := h
          have hk : ¬ (S.srv.length : Int) < S.bud ∧ S.srv.findIdx? (isIdle ⟨#[]⟩ true) = some k := by
            unfold rRoom at hr
            split at hr
            · simp at hr
            · rename_i hb
              refine ⟨hb, ?_⟩
              split at hr
              · simp at hr
              · rename_i j hj
                simp at hr
                rw [hj, hr]
          obtain ⟨s, hs, hs2⟩ := (find_idx _ S.srv).1 k hk.2
          have hidle := List.find?_some hs2
          simp only [isIdle, Bool.and_eq_true, beq_iff_eq] at hidle
          have hmem : ∀ y ∈ S.srv.eraseIdx k, y ∈ S.srv := fun y hy => (List.eraseIdx_sublist _ _).subset hy
          refine ⟨⟨?_, fun y hy => ?_, by have := hI.op0; omega, hcl⟩, rfl, rfl, rfl, ⟨rfl, rfl, rfl⟩, fun y hy hc => ?_, ⟨⟨op + 1, x.nm, x.fr, c.client⟩, ?_, rfl⟩, by omega, ?_⟩
          · show (S.srv.eraseIdx k ++ [_]).Pairwise _
            rw [List.pairwise_append]
            refine ⟨hI.ids.sublist (List.eraseIdx_sublist _ _), by simp, fun a ha b hb => ?_⟩
            simp at hb; subst hb
            have := hI.low a (hmem a ha)
            show a.id < op + 1
            omega
          · have hy' : y ∈ S.srv.eraseIdx k ++ [⟨op + 1, x.nm, x.fr, c.client⟩] := hy
            rcases List.mem_append.1 hy' with hy' | hy'
            · have := hI.low y (hmem y hy'); omega
            · simp at hy'; subst hy'; have := hI.op0; show 1 ≤ op + 1 ∧ op + 1 ≤ _; omega
          · show y ∈ S.srv.eraseIdx k ++ [_]
            exact List.mem_append_left _ (erase_keep _ _ _ hs y hy (fun e => hc (by rw [e]; exact hidle.1)))
          · show _ ∈ S.srv.eraseIdx k ++ [_]
            simp
          · show ((S.srv.eraseIdx k ++ [_]).length : Int) ≤ _
            have hkl : k < S.srv.length := (List.getElem?_eq_some_iff.1 hs).1
            rw [List.length_append, List.length_eraseIdx_of_lt hkl]
            simp
            omega
theorem first_eq {S : Sta} {op : Int} (hI : Inv S op) : ∀ (l : List Wtr) (i : Nat), S.wts.drop i = l → (cFirst S op l).map (fun y => (y.1, y.2 + 1)) = rFirst S (op + 1) i l
  | [], i, _ => rfl
  | c :: r, i, h => by
    have hi : S.wts[i]? = some c := by
      rw [← List.head?_drop, h]; rfl
    have hr : S.wts.drop (i + 1) = r := by
      rw [← List.tail_drop, h]; rfl
    have hg := give_lent hI hi
    rw [cFirst, rFirst, ← hg]
    cases cGive S op c with
    | none => simp only [Option.map_none]; exact first_eq hI r (i + 1) hr
    | some y => rfl
theorem first_some {S S' : Sta} {op nx : Int} : ∀ (l : List Wtr) (i : Nat), S.wts.drop i = l → rFirst S (op + 1) i l = some (S', nx) → ∃ j c, S.wts[j]? = some c ∧ i ≤ j ∧ rLent S (op + 1) j c = some (S', nx)
  | [], i, _, h => by simp [rFirst] at h
  | c :: r, i, hd, h => by
    have hi : S.wts[i]? = some c := by
      rw [← List.head?_drop, hd]; rfl
    have hr : S.wts.drop (i + 1) = r := by
      rw [← List.tail_drop, hd]; rfl
    rw [rFirst] at h
    cases hl : rLent S (op + 1) i c with
    | none =>
      rw [hl] at h
      obtain ⟨j, c', h1, h2, h3⟩ := first_some r (i + 1) hr h
      exact ⟨j, c', h1, by omega, h3⟩
    | some y =>
      rw [hl] at h
      simp at h
      exact ⟨i, c, hi, Nat.le_refl _, by rw [hl, h]⟩
theorem serve_eq : ∀ (f : Nat) (S : Sta) (op : Int), Inv S op → ((cServe f S op).1, (cServe f S op).2 + 1) = rServed f S (op + 1) ∧ Inv (cServe f S op).1 (cServe f S op).2
  | 0, S, op, hI => ⟨rfl, hI⟩
  | f + 1, S, op, hI => by
    have he := first_eq hI S.wts 0 (by simp)
    rw [cServe, rServed, ← he]
    cases hc : cFirst S op S.wts with
    | none => exact ⟨rfl, hI⟩
    | some y =>
      rw [hc] at he
      obtain ⟨j, c, hj, _, hl⟩ := first_some (S := S) (S' := y.1) (op := op) (nx := y.2 + 1) S.wts 0 (by simp) (by rw [← he]; rfl)
      have hst := lent_step hI hl
      have hI2 : Inv y.1 y.2 := by have := hst.inv; rwa [show y.2 + 1 - 1 = y.2 by omega] at this
      simp only [Option.map_some]
      exact serve_eq f y.1 y.2 hI2
end Lw
end Go.Proofs.YtohbonfngeblkaaGreat
namespace Go.Proofs.YtohbonfngeblkaaGreat
open Go.RowKit
namespace Lw
open Co
def Still (S : Sta) (op : Int) : Prop := rFirst S (op + 1) 0 S.wts = none
theorem served_still : ∀ (f : Nat) (S : Sta) (op : Int), Inv S op → S.wts.length ≤ f → Still (cServe f S op).1 (cServe f S op).2
  | 0, S, op, hI, h => by
    have : S.wts = [] := List.length_eq_zero_iff.1 (by omega)
    show rFirst S (op + 1) 0 S.wts = none
    rw [this]; rfl
  | f + 1, S, op, hI, h => by
    have he := first_eq hI S.wts 0 (by simp)
    rw [cServe]
    cases hc : cFirst S op S.wts with
    | none =>
      rw [hc] at he
      exact he.symm
    | some y =>
      rw [hc] at he
      obtain ⟨j, c, hj, _, hl⟩ := first_some (S := S) (S' := y.1) (op := op) (nx := y.2 + 1) S.wts 0 (by simp) (by rw [← he]; rfl)
      have hst := lent_step hI hl
      have hI2 : Inv y.1 y.2 := by have := hst.inv; rwa [show y.2 + 1 - 1 = y.2 by omega] at this
      refine served_still f y.1 y.2 hI2 ?_
      rw [hst.wts, List.length_eraseIdx_of_lt (List.getElem?_eq_some_iff.1 hj).1]
      omega
structure Kept (S S' : Sta) : Prop where
  pools : S'.pools = S.pools
  bud : S'.bud = S.bud
  rest : S'.plan = S.plan ∧ S'.begun = S.begun ∧ S'.back = S.back
  keep : ∀ x ∈ S.srv, x.client ≠ 0 → x ∈ S'.srv
  sub : S'.wts.Sublist S.wts
  len : (S'.srv.length : Int) ≤ max (S.srv.length : Int) S.bud
theorem serve_kept : ∀ (f : Nat) (S : Sta) (op : Int), Inv S op → Kept S (cServe f S op).1
  | 0, S, op, _ => ⟨rfl, rfl, ⟨rfl, rfl, rfl⟩, fun _ h _ => h, List.Sublist.refl _, by show (S.srv.length : Int) ≤ _; omega⟩
  | f + 1, S, op, hI => by
    have he := first_eq hI S.wts 0 (by simp)
    rw [cServe]
    cases hc : cFirst S op S.wts with
    | none => exact ⟨rfl, rfl, ⟨rfl, rfl, rfl⟩, fun _ h _ => h, List.Sublist.refl _, by show (S.srv.length : Int) ≤ _; omega⟩
    | some y =>
      rw [hc] at he
      obtain ⟨j, c, hj, _, hl⟩ := first_some (S := S) (S' := y.1) (op := op) (nx := y.2 + 1) S.wts 0 (by simp) (by rw [← he]; rfl)
      have hst := lent_step hI hl
      have hI2 : Inv y.1 y.2 := by have := hst.inv; rwa [show y.2 + 1 - 1 = y.2 by omega] at this
      have ih := serve_kept f y.1 y.2 hI2
      refine ⟨ih.pools.trans hst.pools, ih.bud.trans hst.bud, ⟨ih.rest.1.trans hst.rest.1, ih.rest.2.1.trans hst.rest.2.1, ih.rest.2.2.trans hst.rest.2.2⟩, fun x hx hx0 => ih.keep x (hst.keep x hx hx0) hx0, ih.sub.trans (by rw [hst.wts]; exact List.eraseIdx_sublist _ _), ?_⟩
      have h1 := ih.len
      have h2 := hst.len
      rw [hst.bud] at h1
      show ((cServe f y.1 y.2).1.srv.length : Int) ≤ _
      omega
theorem lent_wts {S : Sta} {nx : Int} {c : Wtr} {i j : Nat} {l : List Wtr} : (rLent S nx i c).isSome = (rLent { S with wts := l } nx j c).isSome := by
  unfold rLent rRoom
  simp only
  cases S.pools.find? (isNameP c.pool) with
  | none => rfl
  | some x =>
    simp only
    cases S.srv.findIdx? (isIdle c.pool false) with
    | some k => rfl
    | none =>
      simp only
      split
      · rfl
      · split <;> rfl
theorem first_none {S : Sta} {nx : Int} : ∀ (l : List Wtr) (i : Nat), rFirst S nx i l = none ↔ ∀ c ∈ l, (rLent S nx 0 c).isSome = false
  | [], i => by simp [rFirst]
  | c :: r, i => by
    have hw : (rLent S nx i c).isSome = (rLent S nx 0 c).isSome := lent_wts (l := S.wts)
    rw [rFirst]
    cases hl : rLent S nx i c with
    | none =>
      rw [hl] at hw
      simp only
      rw [first_none r (i + 1)]
      constructor
      · intro h d hd
        rcases List.mem_cons.1 hd with rfl | hd
        · rw [← hw]; rfl
        · exact h d hd
      · intro h d hd
        exact h d (List.mem_cons_of_mem _ hd)
    | some y =>
      rw [hl] at hw
      simp only [reduceCtorEq, false_iff]
      intro h
      have := h c List.mem_cons_self
      rw [← hw] at this
      simp at this
theorem ask_serve {S : Sta} {op : Int} (hI : Inv S op) (hst : Still S op) {c : Wtr} (hn : ∀ x ∈ S.wts, x.client ≠ c.client) (hc0 : c.client ≠ 0) :
    Inv { S with wts := S.wts ++ [c] } op ∧
    ((cServe (S.wts ++ [c]).length { S with wts := S.wts ++ [c] } op = ({ S with wts := S.wts ++ [c] }, op)) ∨ ∃ x ∈ (cServe (S.wts ++ [c]).length { S with wts := S.wts ++ [c] } op).1.srv, x.client = c.client) := by
  have hI1 : Inv { S with wts := S.wts ++ [c] } op := ⟨hI.ids, hI.low, hI.op0, by
    rw [List.pairwise_append]
    refine ⟨hI.cli, by simp, fun a ha b hb => ?_⟩
    simp at hb; subst hb
    exact hn a ha⟩
  refine ⟨hI1, ?_⟩
  have hlen : (S.wts ++ [c]).length = S.wts.length + 1 := by simp
  rw [hlen, cServe]
  have he := first_eq hI1 (S.wts ++ [c]) 0 (by simp)
  cases hc : cFirst { S with wts := S.wts ++ [c] } op (S.wts ++ [c]) with
  | none => left; rfl
  | some y =>
    right
    rw [hc] at he
    obtain ⟨j, d, hj, _, hl⟩ := first_some (S := { S with wts := S.wts ++ [c] }) (S' := y.1) (op := op) (nx := y.2 + 1) (S.wts ++ [c]) 0 (by simp) (by rw [← he]; rfl)
    have hstp := lent_step hI1 hl
    have hI2 : Inv y.1 y.2 := by have := hstp.inv; rwa [show y.2 + 1 - 1 = y.2 by omega] at this
    have hd : d = c := by
      have hmem : d ∈ S.wts ++ [c] := List.mem_of_getElem? hj
      rcases List.mem_append.1 hmem with h | h
      · have h1 := (first_none S.wts 0).1 hst d h
        have h2 : (rLent S (op + 1) 0 d).isSome = (rLent { S with wts := S.wts ++ [c] } (op + 1) j d).isSome := lent_wts
        rw [h1, hl] at h2
        simp at h2
      · simpa using h
    subst hd
    obtain ⟨x, hx, hxc⟩ := hstp.got
    exact ⟨x, (serve_kept _ _ _ hI2).keep x hx (by rw [hxc]; exact hc0), hxc⟩
end Lw
end Go.Proofs.YtohbonfngeblkaaGreat
