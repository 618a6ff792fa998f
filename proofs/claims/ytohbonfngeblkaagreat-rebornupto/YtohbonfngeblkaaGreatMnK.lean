import Derived.Test.YtohbonfngeblkaaGreatMnJ
import Derived.Test.YtohbonfngeblkaaGreatMnA
import Derived.Laws.IdiomStrings
namespace Go.Proofs.YtohbonfngeblkaaGreat
open Go.RowKit
namespace Lw
open Co
structure Good (S : Sta) (op : Int) : Prop where
  fine : Fine S op
  still : Still S op
  wts : ∀ y ∈ S.wts, ∃ x, S.pools.find? (isNameP y.pool) = some x ∧ (cntG (isPoolW y.pool) S.wts : Int) ≤ x.wt
def stay (T : Sta) (w : Wtr) : Bool := T.wts.any (isCliW w.client)
def holdP (T : Sta) (c : Int) : Int := match T.srv.find? (isCliV c) with | some s => s.id | none => 0
theorem hold_ne {T : Sta} {op c : Int} (hi : Inv T op) (h : ∃ x ∈ T.srv, x.client = c) : holdP T c ≠ 0 := by
  unfold holdP
  cases hf : T.srv.find? (isCliV c) with
  | none =>
    obtain ⟨x, hx, e⟩ := h
    have := find_none' hf x hx
    unfold isCliV at this
    rw [e] at this
    simp at this
  | some s =>
    have := hi.low s (List.mem_of_find?_eq_some hf)
    simp only
    omega
theorem sub_filter : ∀ {l m : List Wtr}, l.Sublist m → m.Pairwise (fun a b => a.client ≠ b.client) → l = m.filter (fun w => l.any (isCliW w.client)) := by
  intro l m h
  induction h with
  | slnil => intro _; rfl
  | @cons l m a h ih =>
    intro hp
    obtain ⟨h1, h2⟩ := List.pairwise_cons.1 hp
    rw [List.filter_cons, if_neg]
    · exact ih h2
    · intro h3
      obtain ⟨x, hx, hx2⟩ := List.any_eq_true.1 h3
      exact h1 x (h.subset hx) (eq_of_beq hx2).symm
  | @cons_cons l m a h ih =>
    intro hp
    obtain ⟨h1, h2⟩ := List.pairwise_cons.1 hp
    rw [List.filter_cons, if_pos (by simp [isCliW])]
    congr 1
    refine (ih h2).trans (List.filter_congr fun w hw => ?_)
    have : isCliW w.client a = false := bool_ne (fun h3 => h1 w hw (eq_of_beq h3))
    rw [List.any_cons, this, Bool.false_or]
theorem stay_no {T : Sta} {w : Wtr} (h : stay T w = false) : w ∉ T.wts := fun hm => by
  have : stay T w = true := List.any_eq_true.2 ⟨w, hm, by simp [isCliW]⟩
  rw [h] at this
  simp at this
theorem stay_yes {T : Sta} {w : Wtr} (h : w ∈ T.wts) : stay T w = true := List.any_eq_true.2 ⟨w, h, by simp [isCliW]⟩
structure FairF (S T : Sta) (k A : Int) : Prop where
  ex : ∃ ex, T.wts = S.wts.filter (stay T) ++ ex ∧ (ex = [] ∨ (k = 1 ∧ ∃ nm, ex = [⟨A, nm⟩]))
  gone : ∀ i w, S.wts[i]? = some w → stay T w = false → w ∉ T.wts ∧ ((k = 3 ∧ A = w.client) ∨ (holdP T w.client ≠ 0 ∧ ∀ v ∈ (S.wts.take i).filter (stay T), (v.pool.toList == w.pool.toList) = false))
theorem FairF.refl {S : Sta} {op : Int} (h : Inv S op) (k A : Int) : FairF S S k A :=
  ⟨⟨[], by rw [List.append_nil]; exact sub_filter (List.Sublist.refl _) h.cli, .inl rfl⟩, fun i w hw hs => absurd (List.mem_of_getElem? hw) (stay_no hs)⟩
theorem split_at {α : Type} {l : List α} {i : Nat} {w : α} (h : l[i]? = some w) : l = l.take i ++ w :: l.drop (i + 1) := by
  obtain ⟨hi, rfl⟩ := List.getElem?_eq_some_iff.1 h
  rw [← List.drop_eq_getElem_cons hi, List.take_append_drop]
theorem fair_srvd {S J T : Sta} {op op' k A : Int} (h : Srvd J T op op') (hJ : J.wts.Pairwise (fun a b => a.client ≠ b.client)) {ex : List Wtr} (hw : J.wts = S.wts ++ ex) (hx : ex.filter (stay T) = [] ∨ (k = 1 ∧ ∃ nm, ex = [⟨A, nm⟩])) : FairF S T k A := by
  have hT := sub_filter h.sub hJ
  refine ⟨⟨ex.filter (stay T), ?_, ?_⟩, fun i w hwi hs => ?_⟩
  · rw [← List.filter_append, ← hw]
    exact hT
  · rcases hx with hx | ⟨hk, nm, rfl⟩
    · exact .inl hx
    · rw [List.filter_cons]
      split
      · exact .inr ⟨hk, nm, rfl⟩
      · exact .inl rfl
  · have hn := stay_no hs
    obtain ⟨h1, h2⟩ := h.gone (S.wts.take i) w (S.wts.drop (i + 1) ++ ex) (by rw [hw, ← List.cons_append, ← List.append_assoc, ← split_at hwi]) hn
    refine ⟨hn, .inr ⟨hold_ne h.fine.inv h1, fun v hv => bool_ne (fun e => ?_)⟩⟩
    obtain ⟨hv1, hv2⟩ := List.mem_filter.1 hv
    have hvT : v ∈ T.wts := by
      rw [hT, hw, List.filter_append]
      exact List.mem_append_left _ (List.mem_filter.2 ⟨List.mem_of_mem_take hv1, hv2⟩)
    exact h2 v hv1 (ba_ext' (eq_of_beq e)) hvT
theorem fine_join {S : Sta} {op : Int} (h : Fine S op) {c : Int} {nm : ByteArray} (hc : 1 ≤ c ∧ c ≤ 99) (hs : ∀ x ∈ S.srv, x.client ≠ c) (hw : ∀ y ∈ S.wts, y.client ≠ c) : Fine (joined S c nm) op := by
  refine ⟨⟨h.inv.ids, h.inv.low, h.inv.op0, ?_⟩, ?_, h.sc, h.one, ?_, h.sur⟩
  · show (S.wts ++ [_]).Pairwise _
    rw [List.pairwise_append]
    refine ⟨h.inv.cli, by simp, fun a ha b hb => ?_⟩
    simp only [List.mem_singleton] at hb
    subst hb
    exact hw a ha
  · intro y hy
    rcases List.mem_append.1 hy with hy | hy
    · exact h.wc y hy
    · simp only [List.mem_singleton] at hy; subst hy; exact hc
  · intro x hx y hy
    rcases List.mem_append.1 hy with hy | hy
    · exact h.sep x hx y hy
    · simp only [List.mem_singleton] at hy; subst hy; exact hs x hx
theorem okCli_iff {c : Int} : ¬ okCli c = false ↔ 1 ≤ c ∧ c ≤ 99 := by unfold okCli; simp
theorem cntW_sub {p : Wtr → Bool} {l m : List Wtr} (h : l.Sublist m) : cntG p l ≤ cntG p m := (h.filter p).length_le
theorem wts_sub {S T : Sta} (hp : T.pools = S.pools) (hs : T.wts.Sublist S.wts) (h : ∀ y ∈ S.wts, ∃ x, S.pools.find? (isNameP y.pool) = some x ∧ (cntG (isPoolW y.pool) S.wts : Int) ≤ x.wt) : ∀ y ∈ T.wts, ∃ x, T.pools.find? (isNameP y.pool) = some x ∧ (cntG (isPoolW y.pool) T.wts : Int) ≤ x.wt := by
  intro y hy
  obtain ⟨x, h1, h2⟩ := h y (hs.subset hy)
  have := cntW_sub (p := isPoolW y.pool) hs
  exact ⟨x, by rw [hp]; exact h1, by omega⟩
theorem ask_cases {S : Sta} {op : Int} (h : Good S op) (c : Int) (name : ByteArray) :
    ((cAsk S op c name).S = S ∧ (cAsk S op c name).op = op ∧ (cAsk S op c name).id = 0 ∧ (cAsk S op c name).err ≠ 0)
    ∨ (1 ≤ c ∧ c ≤ 99 ∧ (∀ x ∈ S.srv, x.client ≠ c) ∧ (∀ y ∈ S.wts, y.client ≠ c) ∧ (cAsk S op c name).err = 0 ∧ ∃ x, S.pools.find? (isNameP name) = some x ∧
      (cAsk S op c name).S = (cAsked S op c x.nm).1 ∧ (cAsk S op c name).op = (cAsked S op c x.nm).2 ∧ Srvd (joined S c x.nm) (cAsked S op c x.nm).1 op (cAsked S op c x.nm).2
      ∧ ((∃ s ∈ (cAsked S op c x.nm).1.srv, s.client = c ∧ (cAsk S op c name).id = s.id) ∨ ((cAsked S op c x.nm).1 = joined S c x.nm ∧ (cAsked S op c x.nm).2 = op ∧ (cAsk S op c name).id = 0 ∧ (cntG (isPoolW x.nm) (joined S c x.nm).wts : Int) ≤ x.wt))) := by
  unfold cAsk
  by_cases h0 : okCli c = false
  · rw [if_pos h0]; exact .inl ⟨rfl, rfl, rfl, by simp⟩
  · rw [if_neg h0]
    by_cases h1 : ((S.srv.find? (isCliV c)).isSome || (S.wts.find? (isCliW c)).isSome) = true
    · rw [if_pos h1]; exact .inl ⟨rfl, rfl, rfl, by simp⟩
    · rw [if_neg h1]
      have h2 := bool_ne h1
      rw [Bool.or_eq_false_iff] at h2
      have hs : ∀ x ∈ S.srv, x.client ≠ c := fun x hx e => by
        have := none_of_find h2.1 x hx
        unfold isCliV at this
        rw [e] at this
        simp at this
      have hw : ∀ y ∈ S.wts, y.client ≠ c := fun x hx e => by
        have := none_of_find h2.2 x hx
        unfold isCliW at this
        rw [e] at this
        simp at this
      cases hf : S.pools.find? (isNameP name) with
      | none => exact .inl ⟨rfl, rfl, rfl, by simp⟩
      | some x =>
        simp only
        have hc := okCli_iff.1 h0
        have hJ := fine_join h.fine (nm := x.nm) hc hs hw
        have hR : Srvd (joined S c x.nm) (cAsked S op c x.nm).1 op (cAsked S op c x.nm).2 := serve_fine _ _ _ hJ
        obtain ⟨_, hA⟩ := ask_serve h.fine.inv h.still (c := ⟨c, x.nm⟩) hw (by show c ≠ 0; omega)
        have hA' : cAsked S op c x.nm = (joined S c x.nm, op) ∨ ∃ z ∈ (cAsked S op c x.nm).1.srv, z.client = c := by
          have hl : (S.wts ++ [(⟨c, x.nm⟩ : Wtr)]).length = S.wts.length + 1 := by simp
          rw [hl] at hA
          exact hA
        cases hs2 : (cAsked S op c x.nm).1.srv.find? (isCliV c) with
        | some s =>
          refine .inr ⟨hc.1, hc.2, hs, hw, rfl, x, rfl, rfl, rfl, hR, .inl ⟨s, List.mem_of_find?_eq_some hs2, ?_, rfl⟩⟩
          have := List.find?_some hs2
          exact eq_of_beq this
        | none =>
          have hE : cAsked S op c x.nm = (joined S c x.nm, op) := by
            rcases hA' with h | ⟨z, hz, e⟩
            · exact h
            · have := find_none' hs2 z hz
              unfold isCliV at this
              rw [e] at this
              simp at this
          simp only
          rw [hE]
          simp only
          by_cases hn : x.wt < (cntG (isPoolW x.nm) (joined S c x.nm).wts : Int)
          · rw [if_pos hn]
            refine .inl ⟨?_, rfl, rfl, by simp⟩
            show cQuit (joined S c x.nm) c = S
            unfold cQuit joined
            simp only [List.filter_append]
            have e1 : S.wts.filter (fun y => !decide (y.client = c)) = S.wts := List.filter_eq_self.2 (fun y hy => by simpa using hw y hy)
            rw [e1]
            simp
          · rw [if_neg hn]
            exact .inr ⟨hc.1, hc.2, hs, hw, rfl, x, rfl, by rw [hE], by rw [hE], hR, .inr ⟨by rw [hE], by rw [hE], rfl, by omega⟩⟩
theorem good_ask {S : Sta} {op : Int} (h : Good S op) (c : Int) (name : ByteArray) : Good (cAsk S op c name).S (cAsk S op c name).op ∧ FairF S (cAsk S op c name).S 1 c := by
  have hst := (ask_eq h.fine.inv h.still c name).2.2
  rcases ask_cases h c name with ⟨h1, h2, _, _⟩ | ⟨hc1, hc2, hs, hw, _, x, hf, h1, h2, hR, hid⟩
  · rw [h1, h2]
    exact ⟨h, FairF.refl h.fine.inv _ _⟩
  · rw [h1, h2] at hst ⊢
    have hJ := fine_join h.fine (nm := x.nm) ⟨hc1, hc2⟩ hs hw
    refine ⟨⟨hR.fine, hst, ?_⟩, fair_srvd (S := S) hR hJ.inv.cli (ex := [⟨c, x.nm⟩]) rfl (.inr ⟨rfl, x.nm, rfl⟩)⟩
    rcases hid with ⟨s, hs1, hs2, _⟩ | ⟨hE, _, _, hn⟩
    · refine wts_sub (S := S) hR.rest.1 ?_ h.wts
      have hT := sub_filter hR.sub hJ.inv.cli
      have hno : ([(⟨c, x.nm⟩ : Wtr)].filter (stay (cAsked S op c x.nm).1)) = [] := by
        rw [List.filter_cons, if_neg]
        · rfl
        · intro hst
          obtain ⟨y, hy, e⟩ := List.any_eq_true.1 hst
          exact hR.fine.sep s hs1 y hy (hs2.trans (eq_of_beq e).symm)
      have hT2 : (cAsked S op c x.nm).1.wts = S.wts.filter (stay (cAsked S op c x.nm).1) := by
        refine hT.trans ?_
        show (S.wts ++ [(⟨c, x.nm⟩ : Wtr)]).filter (stay (cAsked S op c x.nm).1) = _
        rw [List.filter_append, hno, List.append_nil]
      rw [hT2]
      exact List.filter_sublist
    · rw [hE]
      intro y hy
      have hxn := find_name hf
      rcases List.mem_append.1 hy with hy' | hy'
      · obtain ⟨p, h3, h4⟩ := h.wts y hy'
        refine ⟨p, h3, ?_⟩
        by_cases hp : x.nm.toList = y.pool.toList
        · have e1 : isPoolW y.pool = isPoolW x.nm := by funext z; unfold isPoolW; rw [hp]
          have e2 : p = x := by
            have : S.pools.find? (isNameP name) = S.pools.find? (isNameP y.pool) := find_same (by rw [← hxn]; exact hp)
            rw [hf, h3] at this
            exact (Option.some.inj this).symm
          rw [e1, e2]; exact hn
        · have e3 : cntG (isPoolW y.pool) (joined S c x.nm).wts = cntG (isPoolW y.pool) S.wts := by
            unfold joined cntG
            rw [List.filter_append]
            have : isPoolW y.pool (⟨c, x.nm⟩ : Wtr) = false := bool_ne (fun e => hp (eq_of_beq e))
            simp [this]
          rw [e3]; exact h4
      · simp only [List.mem_singleton] at hy'
        subst hy'
        exact ⟨x, by show S.pools.find? (isNameP x.nm) = some x; rw [hxn]; exact hf, hn⟩
theorem good_leave {S : Sta} {op : Int} (h : Good S op) (c : Int) : Good (cLeave S op c).S (cLeave S op c).op ∧ FairF S (cLeave S op c).S 3 c := by
  have hst := (leave_eq h.fine.inv h.still c).2
  unfold cLeave at hst ⊢
  by_cases h0 : okCli c = false
  · rw [if_pos h0]; exact ⟨h, FairF.refl h.fine.inv _ _⟩
  · rw [if_neg h0] at hst ⊢
    by_cases h1 : (S.wts.find? (isCliW c)).isSome = false
    · rw [if_pos h1]; exact ⟨h, FairF.refl h.fine.inv _ _⟩
    · rw [if_neg h1] at hst ⊢
      have hsub : (cQuit S c).wts.Sublist S.wts := List.filter_sublist
      refine ⟨⟨⟨hst.1, fun y hy => h.fine.wc y (hsub.subset hy), h.fine.sc, h.fine.one, fun x hx y hy => h.fine.sep x hx y (hsub.subset hy), h.fine.sur⟩, hst.2, wts_sub (S := S) rfl hsub h.wts⟩, ⟨[], ?_, .inl rfl⟩, fun i w hw hs => ?_⟩
      · rw [List.append_nil]; exact sub_filter hsub h.fine.inv.cli
      · have hn := stay_no hs
        refine ⟨hn, .inl ⟨rfl, ?_⟩⟩
        by_cases e : c = w.client
        · exact e
        · exact absurd (List.mem_filter.2 ⟨List.mem_of_getElem? hw, by simpa using fun e2 => e (Eq.symm e2)⟩) hn
theorem fine_shut {S : Sta} {op : Int} (h : Fine S op) (id : Int) : Fine (cShut S id) op := by
  have hsub : (cShut S id).srv.Sublist S.srv := List.filter_sublist
  exact ⟨⟨h.inv.ids.sublist hsub, fun x hx => h.inv.low x (hsub.subset hx), h.inv.op0, h.inv.cli⟩, h.wc, fun x hx => h.sc x (hsub.subset hx), h.one.sublist hsub, fun x hx => h.sep x (hsub.subset hx), fun x hx h0 => sur_less (S := S) rfl rfl (cnt_sub hsub) hsub.length_le (h.sur x (hsub.subset hx) h0)⟩
theorem good_serve {S T J : Sta} {op op' : Int} (h : Good S op) (hR : Srvd J T op op') (hst : Still T op') (hw : J.wts = S.wts) (hp : J.pools = S.pools) (k A : Int) : Good T op' ∧ FairF S T k A := by
  refine ⟨⟨hR.fine, hst, wts_sub (S := S) (hR.rest.1.trans hp) (by rw [← hw]; exact hR.sub) h.wts⟩, fair_srvd hR (by rw [hw]; exact h.fine.inv.cli) (ex := []) (by rw [hw, List.append_nil]) (.inl rfl)⟩
theorem crash_cases {S : Sta} {op : Int} (h : Good S op) (id : Int) :
    ((cCrash S op id).S = S ∧ (cCrash S op id).op = op ∧ (cCrash S op id).err ≠ 0)
    ∨ ((cCrash S op id).err = 0 ∧ (∃ s ∈ S.srv, s.id = id) ∧ Srvd (cShut S id) (cCrash S op id).S op (cCrash S op id).op) := by
  unfold cCrash
  by_cases h1 : (S.srv.find? (fun x => x.id == id)).isSome = false
  · rw [if_pos h1]; exact .inl ⟨rfl, rfl, by simp⟩
  · rw [if_neg h1]
    refine .inr ⟨rfl, ?_, serve_fine _ _ _ (fine_shut h.fine id)⟩
    have h2 : (S.srv.find? (fun x => x.id == id)).isSome = true := by simpa using h1
    obtain ⟨x, hx, e⟩ := List.find?_isSome.1 h2
    exact ⟨x, hx, eq_of_beq e⟩
theorem good_crash {S : Sta} {op : Int} (h : Good S op) (id : Int) (k A : Int) : Good (cCrash S op id).S (cCrash S op id).op ∧ FairF S (cCrash S op id).S k A := by
  have hst := (crash_eq h.fine.inv h.still id).2.2
  rcases crash_cases h id with ⟨h1, h2, _⟩ | ⟨_, _, hR⟩
  · rw [h1, h2]; exact ⟨h, FairF.refl h.fine.inv _ _⟩
  · exact good_serve h hR hst rfl rfl k A
def cGive' (S : Sta) (s : Srv) : Sta := if isSur (cHand S s.id 0) s = true then cShut (cHand S s.id 0) s.id else cHand S s.id 0
theorem id_one {S : Sta} {op : Int} (h : Inv S op) {a b : Srv} (ha : a ∈ S.srv) (hb : b ∈ S.srv) (e : a.id = b.id) : a = b := by
  have hp := h.ids
  obtain ⟨i, hi, rfl⟩ := List.getElem_of_mem ha
  obtain ⟨j, hj, rfl⟩ := List.getElem_of_mem hb
  rw [List.pairwise_iff_getElem] at hp
  rcases Nat.lt_trichotomy i j with h | h | h
  · have := hp i j hi hj h; omega
  · subst h; rfl
  · have := hp j i hj hi h; omega
theorem fine_done {S : Sta} {op : Int} (h : Fine S op) {s : Srv} (hs : s ∈ S.srv) (hs0 : s.client ≠ 0) : Fine (cGive' S s) op ∧ (cGive' S s).wts = S.wts ∧ (cGive' S s).pools = S.pools ∧ (cGive' S s).bud = S.bud
    ∧ (∀ x ∈ S.srv, x.id ≠ s.id → x ∈ (cGive' S s).srv) ∧ (∀ x ∈ (cGive' S s).srv, x.client ≠ 0 → x ∈ S.srv ∧ x.id ≠ s.id) ∧ (∀ x ∈ (cGive' S s).srv, ∃ z ∈ S.srv, x.id = z.id ∧ x.pool = z.pool ∧ x.far = z.far) ∧ (∀ nm, cntG (isPoolV nm) (cGive' S s).srv ≤ cntG (isPoolV nm) S.srv) ∧ (cGive' S s).srv.length ≤ S.srv.length
    ∧ (cGive' S s).plan = S.plan ∧ (cGive' S s).begun = S.begun ∧ (cGive' S s).back = S.back := by
  have hcl : ∀ a : Srv, (if a.id = s.id then { a with client := 0 } else a).client = if a.id = s.id then 0 else a.client := fun a => by split <;> rfl
  have hid : ∀ a : Srv, (if a.id = s.id then { a with client := 0 } else a).id = a.id := fun a => by split <;> rfl
  have hfp : ∀ (p : ByteArray) (z : Srv), isPoolV p (if z.id = s.id then { z with client := 0 } else z) = isPoolV p z := by
    intro p z; split <;> rfl
  have hInv : Inv (cHand S s.id 0) op := by
    refine ⟨?_, fun z hz => ?_, h.inv.op0, h.inv.cli⟩
    · show (S.srv.map _).Pairwise _
      rw [List.pairwise_map]
      exact h.inv.ids.imp (fun {a b} hab => by rw [hid, hid]; exact hab)
    · obtain ⟨a, ha, rfl⟩ := List.mem_map.1 hz
      rw [hid]; exact h.inv.low a ha
  have hcnt : ∀ nm, cntG (isPoolV nm) (cHand S s.id 0).srv = cntG (isPoolV nm) S.srv := fun nm => cnt_map (hfp nm) _
  have hlen : (cHand S s.id 0).srv.length = S.srv.length := by show (S.srv.map _).length = _; rw [List.length_map]
  have hone : (cHand S s.id 0).srv.Pairwise (fun a b => a.client = b.client → a.client = 0) := by
    show (S.srv.map _).Pairwise _
    rw [List.pairwise_map]
    refine h.one.imp (fun {a b} hab => ?_)
    rw [hcl, hcl]
    intro e
    by_cases e1 : a.id = s.id
    · rw [if_pos e1]
    · rw [if_neg e1] at e ⊢
      by_cases e2 : b.id = s.id
      · rw [if_pos e2] at e; exact e
      · rw [if_neg e2] at e; exact hab e
  have hsc : ∀ x ∈ (cHand S s.id 0).srv, 0 ≤ x.client ∧ x.client ≤ 99 := fun z hz => by
    obtain ⟨a, ha, rfl⟩ := List.mem_map.1 hz
    rw [hcl]
    have := h.sc a ha
    split <;> omega
  have hsep : ∀ x ∈ (cHand S s.id 0).srv, ∀ y ∈ S.wts, x.client ≠ y.client := fun z hz y hy => by
    obtain ⟨a, ha, rfl⟩ := List.mem_map.1 hz
    rw [hcl]
    split
    · have := h.wc y hy; omega
    · exact h.sep a ha y hy
  have hback : ∀ x ∈ (cHand S s.id 0).srv, x.id ≠ s.id → x ∈ S.srv := fun z hz hne => by
    obtain ⟨a, ha, rfl⟩ := List.mem_map.1 hz
    rw [hid] at hne
    rw [if_neg hne]; exact ha
  have hkeep : ∀ x ∈ S.srv, x.id ≠ s.id → x ∈ (cHand S s.id 0).srv := fun x hx hne => List.mem_map.2 ⟨x, hx, if_neg hne⟩
  have hfar : ∀ x ∈ (cHand S s.id 0).srv, ∃ z ∈ S.srv, x.id = z.id ∧ x.pool = z.pool ∧ x.far = z.far := fun z hz => by
    obtain ⟨a, ha, rfl⟩ := List.mem_map.1 hz
    exact ⟨a, ha, by split <;> rfl, by split <;> rfl, by split <;> rfl⟩
  have hnz : ∀ x ∈ (cHand S s.id 0).srv, x.client ≠ 0 → x.id ≠ s.id := fun z hz h0 e => by
    obtain ⟨a, ha, rfl⟩ := List.mem_map.1 hz
    rw [hid] at e
    rw [hcl, if_pos e] at h0
    exact h0 rfl
  have hold : ∀ x ∈ (cHand S s.id 0).srv, x.id ≠ s.id → x.client = 0 → isSur (cHand S s.id 0) x = false := fun x hx hne h0 =>
    sur_less (S := S) rfl rfl (Nat.le_of_eq (hcnt _)) (Nat.le_of_eq hlen) (h.sur x (hback x hx hne) h0)
  unfold cGive'
  by_cases hsu : isSur (cHand S s.id 0) s = true
  · rw [if_pos hsu]
    have hsub : (cShut (cHand S s.id 0) s.id).srv.Sublist (cHand S s.id 0).srv := List.filter_sublist
    have hne : ∀ x ∈ (cShut (cHand S s.id 0) s.id).srv, x.id ≠ s.id := fun x hx => by simpa using (List.mem_filter.1 hx).2
    refine ⟨⟨⟨hInv.ids.sublist hsub, fun x hx => hInv.low x (hsub.subset hx), hInv.op0, h.inv.cli⟩, h.wc, fun x hx => hsc x (hsub.subset hx), hone.sublist hsub, fun x hx => hsep x (hsub.subset hx), fun x hx h0 => sur_less (S := cHand S s.id 0) rfl rfl (cnt_sub hsub) hsub.length_le (hold x (hsub.subset hx) (hne x hx) h0)⟩, rfl, rfl, rfl, fun x hx hn => List.mem_filter.2 ⟨hkeep x hx hn, by simpa using hn⟩, fun x hx h0 => ⟨hback x (hsub.subset hx) (hne x hx), hne x hx⟩, fun x hx => hfar x (hsub.subset hx), fun nm => ?_, ?_, rfl, rfl, rfl⟩
    · rw [← hcnt nm]; exact cnt_sub hsub
    · rw [← hlen]; exact hsub.length_le
  · rw [if_neg hsu]
    refine ⟨⟨hInv, h.wc, hsc, hone, hsep, fun x hx h0 => ?_⟩, rfl, rfl, rfl, hkeep, fun x hx h0 => ⟨hback x hx (hnz x hx h0), hnz x hx h0⟩, hfar, fun nm => Nat.le_of_eq (hcnt nm), Nat.le_of_eq hlen, rfl, rfl, rfl⟩
    by_cases e : x.id = s.id
    · obtain ⟨a, ha, rfl⟩ := List.mem_map.1 hx
      rw [hid] at e
      have hae : a = s := id_one h.inv ha hs e
      subst hae
      rw [if_pos rfl]
      exact (show isSur (cHand S a.id 0) { a with client := 0 } = isSur (cHand S a.id 0) a from rfl).trans (bool_ne hsu)
    · exact hold x hx e h0
theorem done_cases {S : Sta} {op : Int} (h : Good S op) (c : Int) :
    ((cDone S op c).S = S ∧ (cDone S op c).op = op ∧ (cDone S op c).err ≠ 0)
    ∨ (1 ≤ c ∧ c ≤ 99 ∧ (cDone S op c).err = 0 ∧ ∃ s ∈ S.srv, s.client = c ∧ Srvd (cGive' S s) (cDone S op c).S op (cDone S op c).op) := by
  unfold cDone
  by_cases h0 : okCli c = false
  · rw [if_pos h0]; exact .inl ⟨rfl, rfl, by simp⟩
  · rw [if_neg h0]
    cases hf : S.srv.find? (isCliV c) with
    | none => exact .inl ⟨rfl, rfl, by simp⟩
    | some s =>
      have hc := okCli_iff.1 h0
      have hs := List.mem_of_find?_eq_some hf
      have hsc : s.client = c := by have := List.find?_some hf; exact eq_of_beq this
      exact .inr ⟨hc.1, hc.2, rfl, s, hs, hsc, serve_fine _ _ _ (fine_done h.fine hs (by omega)).1⟩
theorem good_done {S : Sta} {op : Int} (h : Good S op) (c : Int) (k A : Int) : Good (cDone S op c).S (cDone S op c).op ∧ FairF S (cDone S op c).S k A := by
  have hst := (done_eq h.fine.inv h.still c).2.2
  rcases done_cases h c with ⟨h1, h2, _⟩ | ⟨hc1, hc2, _, s, hs, hsc, hR⟩
  · rw [h1, h2]; exact ⟨h, FairF.refl h.fine.inv _ _⟩
  · obtain ⟨_, hw, hp, _⟩ := fine_done h.fine hs (by omega)
    exact good_serve h hR hst hw hp k A
end Lw
end Go.Proofs.YtohbonfngeblkaaGreat
namespace Go.Proofs.YtohbonfngeblkaaGreat
open Go.RowKit
namespace Co
def I64 (c : Int) : Prop := -9223372036854775808 ≤ c ∧ c ≤ 9223372036854775807
theorem mod_lt {c n : Int} (h0 : 0 ≤ c) (hn : 0 < n) : 0 ≤ c.tmod n ∧ c.tmod n < n := by
  rw [Int.tmod_eq_emod_of_nonneg h0]
  exact ⟨Int.emod_nonneg _ (by omega), Int.emod_lt_of_pos _ hn⟩
set_option maxRecDepth 20000 in
set_option maxHeartbeats 400000 in
theorem pick_any (c n : Int) (w : World) (hc : I64 c) (hn : 0 < n) (hn2 : n ≤ 1000) :
    Calls Tryz.prog 23 #[.int .i64 c, .int .i64 n] w fun e w' => (∃ r, 0 ≤ r ∧ r < n ∧ e = .returned (.int .i64 r)) ∧ w' = w := by
  obtain ⟨h1, h2⟩ := hc
  have hn0 : ¬ n = 0 := by omega
  by_cases hneg : c < 0
  · have h3 : -(c + 1) ≥ 0 := by omega
    go_enter Tryz.func23, Tryz.ntmps23
    go_wp2_with fail
    go_ret
    have h4 := mod_lt h3 hn
    rw [Int.neg_tmod] at h4
    exact ⟨⟨_, h4.1, h4.2, rfl⟩, rfl⟩
  · go_enter Tryz.func23, Tryz.ntmps23
    go_wp2_with fail
    go_ret
    exact ⟨⟨_, Int.emod_nonneg _ hn0, Int.emod_lt_of_pos _ hn, rfl⟩, rfl⟩
set_option maxRecDepth 20000 in
set_option maxHeartbeats 400000 in
theorem bent_any (n lo hi : Int) (w : World) (hc : I64 n) (hl : 0 ≤ lo) (hh : lo ≤ hi) (h9 : hi ≤ 999) :
    Calls Tryz.prog 58 #[.int .i64 n, .int .i64 lo, .int .i64 hi] w fun e w' => (∃ r, lo ≤ r ∧ r ≤ hi ∧ e = .returned (.int .i64 r)) ∧ w' = w := by
  have HP := hideIt (pick_any n (hi - lo + 1) w hc (by omega) (by omega))
  by_cases ha : lo ≤ n
  · by_cases hb : n ≤ hi
    · go_enter Tryz.func58, Tryz.ntmps58
      go_wp2_with fail
      go_ret
      exact ⟨⟨n, ha, hb, rfl⟩, rfl⟩
    · go_enter Tryz.func58, Tryz.ntmps58
      go_wp2_with fail
      refine HP.out.mono ?_
      rintro e w1 ⟨⟨r, h1, h2, rfl⟩, rfl⟩
      go_wp2_with fail
      go_ret
      exact ⟨⟨lo + r, by omega, by omega, rfl⟩, rfl⟩
  · go_enter Tryz.func58, Tryz.ntmps58
    go_wp2_with fail
    refine HP.out.mono ?_
    rintro e w1 ⟨⟨r, h1, h2, rfl⟩, rfl⟩
    go_wp2_with fail
    go_ret
    exact ⟨⟨lo + r, by omega, by omega, rfl⟩, rfl⟩
theorem conv_byte (wr : World) (n : Int) (h0 : 0 ≤ n) (h1 : n ≤ 255) :
    (convert 117 9 (.slice (some ⟨wr.heap.size, 0, none⟩) 1 1)).run Tryz.prog (wr.alloc (.cells #[.int .u8 n] 5)) = .ok (.string ⟨#[UInt8.ofNat n.toNat]⟩) (wr.alloc (.cells #[.int .u8 n] 5)) := by
  have e : ((UInt8.ofNat n.toNat).toNat : Int) = n := by simp [UInt8.toNat_ofNat']; omega
  refine run_convert_bytes_back _ _ _ 5 _ 1 [UInt8.ofNat n.toNat] Tryz.underlying117 Tryz.underlying5 Tryz.underlying9 ?_
  intro j hj
  have : j = 0 := by simpa using hj
  subst this
  show _ = some (Value.int .u8 ((UInt8.ofNat n.toNat).toNat : Int))
  rw [e]
  exact World.cell?_alloc_mark wr _ _ (0, 0) 0
theorem size_isEmpty {t : ByteArray} (h : t.toList.isEmpty = true) : t.size = 0 := by
  rw [ByteArray.toList_eq, List.isEmpty_iff] at h
  have : t.data.toList.length = 0 := by rw [h]; rfl
  rw [Array.length_toList] at this
  exact this
theorem isEmpty_size {t : ByteArray} (h : t.size = 0) : t.toList.isEmpty = true := by
  rw [ByteArray.toList_eq, List.isEmpty_iff, ← List.length_eq_zero_iff, Array.length_toList]
  exact h
theorem isNm_lets {t : ByteArray} (h : lets t.data.toList = true) (h1 : 1 ≤ t.size) (h2 : t.size ≤ 8) : isNm t = true := by
  simp [isNm, h, h1, h2]
theorem lets_push (t : ByteArray) (x : UInt8) (h : lets t.data.toList = true) (h1 : 97 ≤ x.toNat) (h2 : x.toNat ≤ 122) : lets (t ++ ⟨#[x]⟩).data.toList = true ∧ (t ++ ⟨#[x]⟩).size = t.size + 1 := by
  constructor
  · unfold lets at *
    rw [ByteArray.data_append, Array.toList_append, List.all_append, h]
    simp [UInt8.le_iff_toNat_le]; omega
  · rw [ByteArray.size_append]; rfl
theorem add_small (n : Nat) : (97 + UInt8.ofNat (n % 26)).toNat = 97 + n % 26 := by
  rw [UInt8.toNat_add, UInt8.toNat_ofNat']
  simp
  omega
set_option maxRecDepth 20000 in
set_option maxHeartbeats 800000 in
theorem knamed_any (s : ByteArray) (w : World) :
    Calls Tryz.prog 59 #[.string s] w fun e w' => (∃ r, isNm r = true ∧ e = .returned (.string r)) ∧ Below w.heap.size w w' := by
  go_enter Tryz.func59, Tryz.ntmps59
  go_wp2_with fail
  go_loopw [3, 4] (fun o i wr => ∃ (k : Nat) (t : ByteArray), k ≤ s.size ∧ k ≤ 8 ∧ i = .int .i64 k ∧ o = .string t ∧ Hid (t.size = k ∧ lets t.data.toList = true) ∧ Below w.heap.size w wr) (fun _ i _ => s.size - (intOf i).toNat)
  case atStart => exact ⟨0, ⟨#[]⟩, Nat.zero_le _, Nat.zero_le _, rfl, rfl, ⟨rfl, rfl⟩, Below.refl _ _⟩
  case round =>
    obtain ⟨k, t, hk, hk8, rfl, rfl, hl, hb⟩ := hrel
    have hts : ¬ 9223372036854775807 < t.size + 1 := by have := hl.out.1; omega
    by_cases hlt : k < s.size
    · by_cases hl8 : k < 8
      · have hc := conv_byte wr (s[k].toNat : Int) (by omega) (by have := UInt8.toNat_lt s[k]; omega)
        have hc2 := conv_byte wr (97 + (s[k].toNat : Int) % 26) (by omega) (by omega)
        by_cases h1 : (97 : Int) ≤ (s[k].toNat : Int)
        · by_cases h2 : (s[k].toNat : Int) ≤ 122
          · clear hc2
            go_wp2_with fail
            go_round
            case rel =>
              obtain ⟨l1, l2⟩ := lets_push t s[k] hl.out.2 (by omega) (by omega)
              refine ⟨k + 1, t ++ ⟨#[s[k]]⟩, by omega, by omega, by go_num, rfl, ⟨by rw [l2, hl.out.1], l1⟩, hb.alloc (hb.size) _⟩
            case measure => simp [intOf]; omega
          · clear hc
            go_wp2_with fail
            go_round
            case rel =>
              obtain ⟨l1, l2⟩ := lets_push t (97 + UInt8.ofNat (s[k].toNat % 26)) hl.out.2 (by rw [add_small]; omega) (by rw [add_small]; omega)
              exact ⟨k + 1, t ++ ⟨#[97 + UInt8.ofNat (s[k].toNat % 26)]⟩, by omega, by omega, by go_num, rfl, ⟨by rw [l2, hl.out.1], l1⟩, hb.alloc (hb.size) _⟩
            case measure => simp [intOf]; omega
        · clear hc
          go_wp2_with fail
          go_round
          case rel =>
            obtain ⟨l1, l2⟩ := lets_push t (97 + UInt8.ofNat (s[k].toNat % 26)) hl.out.2 (by rw [add_small]; omega) (by rw [add_small]; omega)
            exact ⟨k + 1, t ++ ⟨#[97 + UInt8.ofNat (s[k].toNat % 26)]⟩, by omega, by omega, by go_num, rfl, ⟨by rw [l2, hl.out.1], l1⟩, hb.alloc (hb.size) _⟩
          case measure => simp [intOf]; omega
      · have he : t.toList.isEmpty = false := by
          have := hl.out.1
          cases h : t.toList.isEmpty with
          | false => rfl
          | true => exact absurd (size_isEmpty h) (by omega)
        go_wp2_with fail
        go_ret
        exact ⟨⟨t, isNm_lets hl.out.2 (by have := hl.out.1; omega) (by have := hl.out.1; omega), rfl⟩, hb⟩
    · cases he : t.toList.isEmpty with
      | false =>
        have h1 : 1 ≤ t.size := by
          apply Classical.byContradiction
          intro h
          rw [isEmpty_size (by omega)] at he
          exact absurd he (by simp)
        go_wp2_with fail
        go_ret
        exact ⟨⟨t, isNm_lets hl.out.2 h1 (by have := hl.out.1; omega), rfl⟩, hb⟩
      | true =>
        go_wp2_with fail
        go_ret
        exact ⟨⟨⟨#[97]⟩, by decide, rfl⟩, hb⟩
end Co
end Go.Proofs.YtohbonfngeblkaaGreat
