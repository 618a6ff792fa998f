import Derived.Test.YtohbonfngeblkaaGreatMnAq
namespace Go.Proofs.YtohbonfngeblkaaGreat
open Go.RowKit
namespace Lw
open Co
theorem hold_mem {S : Sta} {op : Int} (h : Fine S op) {x : Srv} (hx : x ∈ S.srv) (h0 : x.client ≠ 0) : holdP S x.client = x.id := by
  unfold holdP
  cases hf : S.srv.find? (isCliV x.client) with
  | none =>
    have := find_none' hf x hx
    unfold isCliV at this
    simp at this
  | some s =>
    have hs := List.mem_of_find?_eq_some hf
    have hsc : s.client = x.client := by have := List.find?_some hf; exact eq_of_beq this
    have : s = x := by
      obtain ⟨i, hi, rfl⟩ := List.getElem_of_mem hs
      obtain ⟨j, hj, rfl⟩ := List.getElem_of_mem hx
      have hp := List.pairwise_iff_getElem.1 h.one
      rcases Nat.lt_trichotomy i j with hij | hij | hij
      · exact absurd (by rw [← hsc]; exact hp i j hi hj hij hsc) h0
      · subst hij; rfl
      · exact absurd (hp j i hj hi hij hsc.symm) h0
    rw [this]
theorem hold_zero {S : Sta} {c : Int} (h : ∀ x ∈ S.srv, x.client ≠ c) : holdP S c = 0 := by
  unfold holdP
  cases hf : S.srv.find? (isCliV c) with
  | none => rfl
  | some s =>
    have hsc : s.client = c := by have := List.find?_some hf; exact eq_of_beq this
    exact absurd hsc (h s (List.mem_of_find?_eq_some hf))
theorem hold_get {S : Sta} {c : Int} (h : 0 < holdP S c) : ∃ x ∈ S.srv, x.client = c ∧ x.id = holdP S c := by
  unfold holdP at h ⊢
  cases hf : S.srv.find? (isCliV c) with
  | none => rw [hf] at h; simp at h
  | some s =>
    have hsc : s.client = c := by have := List.find?_some hf; exact eq_of_beq this
    exact ⟨s, List.mem_of_find?_eq_some hf, hsc, rfl⟩
theorem hold_nn {S : Sta} {op c : Int} (h : Inv S op) : 0 ≤ holdP S c := by
  unfold holdP
  cases hf : S.srv.find? (isCliV c) with
  | none => simp
  | some s =>
    have := h.low s (List.mem_of_find?_eq_some hf)
    simp only
    omega
theorem wait_neg {l : List Wtr} {c : Int} (h : optI (l.findIdx? (isCliW c)) < 0) : ∀ y ∈ l, y.client ≠ c := by
  cases hf : l.findIdx? (isCliW c) with
  | none =>
    intro y hy e
    have := find_none' (gfidx_no hf) y hy
    unfold isCliW at this
    rw [e] at this
    simp at this
  | some k => rw [hf] at h; simp [optI] at h; omega
theorem wait_pos {l : List Wtr} {c : Int} (h : 0 ≤ optI (l.findIdx? (isCliW c))) : ∃ y ∈ l, y.client = c := by
  cases hf : l.findIdx? (isCliW c) with
  | none => rw [hf] at h; simp [optI] at h
  | some k =>
    obtain ⟨y, h1, h2⟩ := gfidx_at hf
    have := List.find?_some h2
    exact ⟨y, List.mem_of_find?_eq_some h2, eq_of_beq this⟩
theorem wait_yes {l : List Wtr} {c : Int} (h : ∃ y ∈ l, y.client = c) : 0 ≤ optI (l.findIdx? (isCliW c)) := by
  rcases Int.lt_or_le (optI (l.findIdx? (isCliW c))) 0 with h1 | h1
  · obtain ⟨y, hy, e⟩ := h
    exact absurd e (wait_neg h1 y hy)
  · exact h1
def Lst (S T : Sta) (kd a n er : Int) : Prop := ∀ c : Int, 1 ≤ c → c ≤ 99 → LastP (holdP S c) (holdP T c) (optI (S.wts.findIdx? (isCliW c))) (optI (T.wts.findIdx? (isCliW c))) n (enB kd a er c (holdP S c)) (asB kd a er c)
theorem lst_eff {S T : Sta} {op op' : Int} (hS : Fine S op) (hT : Fine T op') (h : Eff S T) {kd a n er : Int} (hk : er ≠ 0 ∨ (kd ≠ 1 ∧ kd ≠ 2 ∧ kd ≠ 4)) : Lst S T kd a n er := by
  intro c h1 h2
  have hen : enB kd a er c (holdP S c) = false := by
    unfold enB
    rcases hk with hk | ⟨_, k2, k4⟩
    · rw [beq_eq_false_iff_ne.2 hk]; rfl
    · rw [beq_eq_false_iff_ne.2 k2, beq_eq_false_iff_ne.2 k4]; simp
  have has : asB kd a er c = false := by
    unfold asB
    rcases hk with hk | ⟨k1, _, _⟩
    · rw [beq_eq_false_iff_ne.2 hk]; rfl
    · rw [beq_eq_false_iff_ne.2 k1]; simp
  rw [hen, has]
  have hkeep : 0 < holdP S c → holdP T c = holdP S c := fun hw => by
    obtain ⟨x, hx, e, ei⟩ := hold_get hw
    have := hold_mem hT (h.keep x hx (by omega)) (by omega)
    rw [e] at this
    rw [this, ei]
  refine ⟨fun hw => by rw [hkeep hw]; simp, fun hw _ => by rw [hkeep hw]; simp, fun hw hi hv => ?_, fun hv hw => ?_, fun h => by simp at h⟩
  · exfalso
    obtain ⟨x, hx, e, _⟩ := hold_get hi
    rcases h.new x hx (by omega) with h3 | ⟨y, hy, e2⟩
    · have h4 := hold_mem hS h3 (by omega)
      have h5 := hS.inv.low x h3
      rw [e] at h4
      omega
    · exact wait_neg hv y hy (e2.trans e)
  · exfalso
    obtain ⟨y, hy, e⟩ := wait_pos hv
    exact wait_neg hw y (h.sub y hy) e
theorem lst_ask {S : Sta} {op : Int} (h : Good S op) (a : Int) (nm : ByteArray) : Lst S (cAsk S op a nm).S 1 a (cAsk S op a nm).id ((cAsk S op a nm).err : Int) := by
  have hgT := (good_ask h a nm).1
  rcases ask_cases h a nm with ⟨h1, h2, h3, h4⟩ | ⟨ha1, ha2, hs, hw, her, x, hf, e1, e2, hR, hid⟩
  · rw [h1]
    exact lst_eff h.fine h.fine (Eff.refl _) (.inl (by omega))
  · intro c hc1 hc2
    rw [e1] at hgT ⊢
    rw [e2] at hgT
    have hT := hgT.fine
    have her' : ((cAsk S op a nm).err : Int) = 0 := by omega
    rw [her']
    have hen : enB 1 a 0 c (holdP S c) = false := by simp [enB]
    rw [hen]
    have hkeep : 0 < holdP S c → holdP (cAsked S op a x.nm).1 c = holdP S c := fun hw0 => by
      obtain ⟨y, hy, e, ei⟩ := hold_get hw0
      have := hold_mem hT (hR.keep y hy (by omega)) (by omega)
      rw [e] at this
      rw [this, ei]
    by_cases hca : a = c
    · subst hca
      have has : asB 1 a 0 a = true := by simp [asB]
      rw [has]
      have hw0 : holdP S a = 0 := hold_zero hs
      refine ⟨fun hp => by omega, fun hp => by omega, fun _ _ _ => rfl, fun _ _ => rfl, fun _ => ?_⟩
      rcases hid with ⟨s, hs1, hs2, hs3⟩ | ⟨hE, _, hi0, _⟩
      · have h5 := hold_mem hT hs1 (by omega)
        rw [hs2] at h5
        have h6 := hT.inv.low s hs1
        rw [h5, hs3]
        refine ⟨by simp, ?_⟩
        have h7 : ¬ 0 ≤ optI ((cAsked S op a x.nm).1.wts.findIdx? (isCliW a)) := fun hv => by
          obtain ⟨y, hy, e⟩ := wait_pos hv
          exact hT.sep s hs1 y hy (hs2.trans e.symm)
        rw [decide_eq_false h7]
        exact beq_eq_false_iff_ne.2 (by omega)
      · rw [hE, hi0]
        have h5 : holdP (joined S a x.nm) a = 0 := hold_zero hs
        rw [h5]
        refine ⟨rfl, ?_⟩
        have h6 : 0 ≤ optI (List.findIdx? (isCliW a) (joined S a x.nm).wts) := wait_yes ⟨⟨a, x.nm⟩, List.mem_append_right _ (List.mem_singleton.2 rfl), rfl⟩
        rw [decide_eq_true h6]
        rfl
    · have has : asB 1 a 0 c = false := by simp [asB, hca]
      rw [has]
      refine ⟨fun hp => by rw [hkeep hp]; simp, fun hp _ => by rw [hkeep hp]; simp, fun hp hi hv => ?_, fun hv hw0 => ?_, fun h => by simp at h⟩
      · exfalso
        obtain ⟨y, hy, e, _⟩ := hold_get hi
        rcases hR.new y hy (by omega) with h3 | ⟨z, hz, e2⟩
        · have h4 := hold_mem h.fine (x := y) h3 (by omega)
          have h5 := h.fine.inv.low y h3
          rw [e] at h4
          omega
        · rcases List.mem_append.1 hz with hz | hz
          · exact wait_neg hv z hz (e2.trans e)
          · simp only [List.mem_singleton] at hz
            subst hz
            have : a = y.client := e2
            omega
      · exfalso
        obtain ⟨y, hy, e⟩ := wait_pos hv
        rcases List.mem_append.1 (hR.sub.subset hy) with hz | hz
        · exact wait_neg hw0 y hz e
        · simp only [List.mem_singleton] at hz
          subst hz
          exact hca e
theorem lst_done {S : Sta} {op : Int} (h : Good S op) (a n : Int) : Lst S (cDone S op a).S 2 a n ((cDone S op a).err : Int) := by
  have hgT := (good_done h a 0 0).1
  rcases done_cases h a with ⟨h1, _, h4⟩ | ⟨ha1, ha2, her, s, hs, hsc, hR⟩
  · rw [h1]
    exact lst_eff h.fine h.fine (Eff.refl _) (.inl (by omega))
  · intro c hc1 hc2
    have hT := hgT.fine
    obtain ⟨_, f1, _, _, f4, f5, _⟩ := fine_done h.fine hs (by omega)
    have her' : ((cDone S op a).err : Int) = 0 := by omega
    rw [her']
    have has : asB 2 a 0 c = false := by simp [asB]
    rw [has]
    have hsub : ∀ y ∈ (cDone S op a).S.wts, y ∈ S.wts := fun y hy => by have := hR.sub.subset hy; rw [f1] at this; exact this
    have hnew : ∀ y ∈ (cDone S op a).S.srv, y.client ≠ 0 → (y ∈ S.srv ∧ y.id ≠ s.id) ∨ ∃ z ∈ S.wts, z.client = y.client := fun y hy h0 => by
      rcases hR.new y hy h0 with h3 | ⟨z, hz, e⟩
      · exact .inl (f5 y h3 h0)
      · exact .inr ⟨z, by rw [← f1]; exact hz, e⟩
    have hl4 : 0 ≤ optI ((cDone S op a).S.wts.findIdx? (isCliW c)) → optI (S.wts.findIdx? (isCliW c)) < 0 → false = true := fun hv hw0 => by
      exfalso
      obtain ⟨y, hy, e⟩ := wait_pos hv
      exact wait_neg hw0 y (hsub y hy) e
    have hl3 : holdP S c = 0 → 0 < holdP (cDone S op a).S c → optI (S.wts.findIdx? (isCliW c)) < 0 → false = true := fun hp hi hv => by
      exfalso
      obtain ⟨y, hy, e, _⟩ := hold_get hi
      rcases hnew y hy (by omega) with ⟨h3, _⟩ | ⟨z, hz, e2⟩
      · have h4 := hold_mem h.fine (x := y) h3 (by omega)
        have h5 := h.fine.inv.low y h3
        rw [e] at h4
        omega
      · exact wait_neg hv z hz (e2.trans e)
    by_cases hca : a = c
    · subst hca
      have hen : enB 2 a 0 a (holdP S a) = true := by simp [enB]
      rw [hen]
      have hz : holdP (cDone S op a).S a = 0 := hold_zero (fun y hy e => by
        rcases hnew y hy (by omega) with ⟨h3, h4⟩ | ⟨z, hz, e2⟩
        · have h5 := hold_mem h.fine h3 (by omega)
          have h6 := hold_mem h.fine hs (by omega)
          rw [e] at h5
          rw [hsc] at h6
          exact h4 (h5.symm.trans h6)
        · exact h.fine.sep s hs z hz (hsc.trans (e.symm.trans e2.symm)))
      refine ⟨fun hp => by rw [hz]; exact beq_eq_false_iff_ne.2 (by omega), fun _ hi => by rw [hz] at hi; omega, hl3, hl4, fun h => by simp at h⟩
    · have hen : enB 2 a 0 c (holdP S c) = false := by simp [enB, hca]
      rw [hen]
      have hkeep : 0 < holdP S c → holdP (cDone S op a).S c = holdP S c := fun hp => by
        obtain ⟨y, hy, e, ei⟩ := hold_get hp
        have hne : y.id ≠ s.id := fun e2 => by
          have := id_one h.fine.inv hy hs e2
          rw [this] at e
          omega
        have := hold_mem hT (hR.keep y (f4 y hy hne) (by omega)) (by omega)
        rw [e] at this
        rw [this, ei]
      exact ⟨fun hp => by rw [hkeep hp]; simp, fun hp _ => by rw [hkeep hp]; simp, hl3, hl4, fun h => by simp at h⟩
theorem lst_crash {S : Sta} {op : Int} (h : Good S op) (a n : Int) : Lst S (cCrash S op a).S 4 a n ((cCrash S op a).err : Int) := by
  have hgT := (good_crash h a 0 0).1
  rcases crash_cases h a with ⟨h1, _, h4⟩ | ⟨her, ⟨s, hs, hsi⟩, hR⟩
  · rw [h1]
    exact lst_eff h.fine h.fine (Eff.refl _) (.inl (by omega))
  · intro c hc1 hc2
    have hT := hgT.fine
    have her' : ((cCrash S op a).err : Int) = 0 := by omega
    rw [her']
    have has : asB 4 a 0 c = false := by simp [asB]
    rw [has]
    have hnew : ∀ y ∈ (cCrash S op a).S.srv, y.client ≠ 0 → (y ∈ S.srv ∧ y.id ≠ a) ∨ ∃ z ∈ S.wts, z.client = y.client := fun y hy h0 => by
      rcases hR.new y hy h0 with h3 | h3
      · have := List.mem_filter.1 h3
        exact .inl ⟨this.1, by simpa using this.2⟩
      · exact .inr h3
    have hl4 : 0 ≤ optI ((cCrash S op a).S.wts.findIdx? (isCliW c)) → optI (S.wts.findIdx? (isCliW c)) < 0 → false = true := fun hv hw0 => by
      exfalso
      obtain ⟨y, hy, e⟩ := wait_pos hv
      exact wait_neg hw0 y (hR.sub.subset hy) e
    have hl3 : holdP S c = 0 → 0 < holdP (cCrash S op a).S c → optI (S.wts.findIdx? (isCliW c)) < 0 → false = true := fun hp hi hv => by
      exfalso
      obtain ⟨y, hy, e, _⟩ := hold_get hi
      rcases hnew y hy (by omega) with ⟨h3, _⟩ | ⟨z, hz, e2⟩
      · have h4 := hold_mem h.fine (x := y) h3 (by omega)
        have h5 := h.fine.inv.low y h3
        rw [e] at h4
        omega
      · exact wait_neg hv z hz (e2.trans e)
    by_cases hca : a = holdP S c
    · have hen : enB 4 a 0 c (holdP S c) = true := by rw [← hca]; simp [enB]
      rw [hen]
      have hz : 0 < holdP S c → holdP (cCrash S op a).S c = 0 := fun hp => hold_zero (fun y hy e => by
        obtain ⟨x, hx, ex, ei⟩ := hold_get hp
        rcases hnew y hy (by omega) with ⟨h3, h4⟩ | ⟨z, hz, e2⟩
        · have h5 := hold_mem h.fine h3 (by omega)
          rw [e] at h5
          exact h4 (h5.symm.trans hca.symm)
        · exact h.fine.sep x hx z hz (ex.trans (e.symm.trans e2.symm)))
      refine ⟨fun hp => by rw [hz hp]; exact beq_eq_false_iff_ne.2 (by omega), fun hp hi => by rw [hz hp] at hi; omega, hl3, hl4, fun h => by simp at h⟩
    · have hen : enB 4 a 0 c (holdP S c) = false := by simp [enB, hca]
      rw [hen]
      have hkeep : 0 < holdP S c → holdP (cCrash S op a).S c = holdP S c := fun hp => by
        obtain ⟨y, hy, e, ei⟩ := hold_get hp
        have hne : y.id ≠ a := fun e2 => hca (by rw [← ei, e2])
        have := hold_mem hT (hR.keep y (List.mem_filter.2 ⟨hy, by simpa using hne⟩) (by omega)) (by omega)
        rw [e] at this
        rw [this, ei]
      exact ⟨fun hp => by rw [hkeep hp]; simp, fun hp _ => by rw [hkeep hp]; simp, hl3, hl4, fun h => by simp at h⟩
theorem eff_leave {S : Sta} {op : Int} (a : Int) : Eff S (cLeave S op a).S := by
  unfold cLeave
  split
  · exact Eff.refl _
  · split
    · exact Eff.refl _
    · exact ⟨fun _ h _ => h, fun _ h _ => .inl h, fun y hy => (List.mem_filter.1 hy).1⟩
structure Run1 (S : Sta) (X : Aux) : Prop where
  good : Good S X.op
  pln : ∃ g, Pln S X g
  hps : X.hps.length ≤ 6
  plan : S.plan.length ≤ 56
theorem turned_len (S : Sta) (X : Aux) (d : Bool) : (cTurned S X d).1.plan.length ≤ S.plan.length ∧ ((cTurned S X d).2.hps = [] ∨ (cTurned S X d).2.hps = X.hps) := by
  unfold cTurned
  split
  · split
    · exact ⟨by simp, .inl rfl⟩
    · exact ⟨by simp, .inr rfl⟩
  · exact ⟨Nat.le_refl _, .inr rfl⟩
theorem fwd_len (L : List Stp) (b : Int) (ps : List Pl) (h : ps.length ≤ 6) : (fwdH L b ps).2.length ≤ 6 := by
  unfold fwdH
  split
  · simp
  · exact h
theorem step_run {A B : Int × List Pl} {kd a p : Int} {S : Sta} {X : Aux} {S' : Sta} {X' : Aux} {n er : Int} (hA : Okt A.1 A.2) (hB : Okt B.1 B.2) (h : Run1 S X) (hs : StepR A B kd a p S X S' X' n er) : Run1 S' X' ∧ pot (S', X'.op) ≤ pot (S, X.op) + 1 ∧ Lst S S' kd a n er := by
  obtain ⟨g, hpl⟩ := h.pln
  have hlease : ∀ (T : Sta) (o : Int), Good T o → Rest S T → Run1 T { X with op := o } := fun T o hg hr =>
    ⟨hg, ⟨g, pln_rest hpl hr ⟨rfl, rfl⟩⟩, h.hps, by rw [hr.2.2.1]; exact h.plan⟩
  rcases hs with ⟨hk, rfl, rfl, rfl, rfl⟩ | ⟨hk, rfl, rfl, rfl, rfl⟩ | ⟨hk, rfl, rfl, rfl, rfl⟩ | ⟨hk, rfl, rfl, rfl, rfl⟩ | ⟨hk, rfl, rfl, rfl, rfl⟩ | ⟨hk, T, hT, rfl, rfl, rfl, rfl⟩ | ⟨hk, rfl, rfl, rfl, rfl⟩ | ⟨hk, rfl, rfl, rfl, rfl⟩
  · have hp := ask_pot S X.op a (gNm A.2 B.2 p)
    subst hk
    exact ⟨hlease _ _ (good_ask h.good a _).1 hp.2, hp.1, lst_ask h.good a _⟩
  · have hp := done_pot S X.op a
    subst hk
    exact ⟨hlease _ _ (good_done h.good a 0 0).1 hp.2, hp.1, lst_done h.good a 0⟩
  · have hp := leave_pot S X.op a
    have hg := (good_leave h.good a).1
    subst hk
    exact ⟨hlease _ _ hg hp.2, hp.1, lst_eff h.good.fine hg.fine (eff_leave a) (.inr (by omega))⟩
  · have hp := crash_pot S X.op a
    subst hk
    exact ⟨hlease _ _ (good_crash h.good a 0 0).1 hp.2, hp.1, lst_crash h.good a 0⟩
  · obtain ⟨k1, k2, k3, k4⟩ := turn_all h.good hpl
    refine ⟨⟨k1, ⟨g, k2⟩, ?_, ?_⟩, by omega, lst_eff h.good.fine k1.fine k3 (.inr (by omega))⟩
    · cases hp : S.plan with
      | nil => have e : cTurn S X = ⟨S, X, 0, 14, 0⟩ := by unfold cTurn; rw [hp]
               rw [e]; exact h.hps
      | cons s r =>
        have e : (cTurn S X).X = (cTurned (cTurnS s.kind s.name s.n S.begun S X.op).1 { X with op := (cTurnS s.kind s.name s.n S.begun S X.op).2 } (cEnded s.kind s.name s.n (cTurnS s.kind s.name s.n S.begun S X.op).1)).2 := by unfold cTurn; rw [hp]
        rw [e]
        rcases (turned_len _ _ _).2 with h1 | h1
        · rw [h1]; simp
        · rw [h1]; exact h.hps
    · cases hp : S.plan with
      | nil => have e : cTurn S X = ⟨S, X, 0, 14, 0⟩ := by unfold cTurn; rw [hp]
               rw [e]; exact h.plan
      | cons s r =>
        have e : (cTurn S X).S = (cTurned (cTurnS s.kind s.name s.n S.begun S X.op).1 { X with op := (cTurnS s.kind s.name s.n S.begun S X.op).2 } (cEnded s.kind s.name s.n (cTurnS s.kind s.name s.n S.begun S X.op).1)).1 := by unfold cTurn; rw [hp]
        rw [e]
        refine Nat.le_trans (turned_len _ _ _).1 ?_
        obtain ⟨R, t, hb, hsv, _⟩ := turn_mid h.good hpl hp
        rw [hsv.rest.2.2.1, hb.tab.2.2.1]
        exact h.plan
  · have hot : Okt T.1 T.2 := by rcases hT with rfl | rfl <;> assumption
    obtain ⟨k1, ⟨g', k2, _, _⟩, k3, k4⟩ := reload_all h.good hpl (a := ⟨T, 0, 0⟩) (fun _ => hot)
    refine ⟨⟨k1, ⟨g', k2⟩, ?_, ?_⟩, by omega, lst_eff h.good.fine k1.fine k3 (.inr (by omega))⟩
    · unfold cReload
      split
      · exact h.hps
      · split
        · exact h.hps
        · exact fwd_len _ _ _ hpl.tab.len
    · unfold cReload
      split
      · exact h.plan
      · split
        · exact h.plan
        · exact diff_len _ _ _ _ hpl.tab.len hot.len
  · obtain ⟨k1, ⟨g', k2, _, _⟩, k3, k4⟩ := abort_all h.good hpl
    refine ⟨⟨k1, ⟨g', k2⟩, ?_, ?_⟩, by omega, lst_eff h.good.fine k1.fine k3 (.inr (by omega))⟩
    · unfold cAbort
      split
      · exact h.hps
      · split
        · exact h.hps
        · simp
    · unfold cAbort
      split
      · exact h.plan
      · split
        · exact h.plan
        · exact diff_len _ _ _ _ hpl.tab.len h.hps
  · exact ⟨h, by omega, lst_eff h.good.fine h.good.fine (Eff.refl _) (.inr (by omega))⟩
theorem run1_fresh {S : Sta} {X : Aux} {A : Int × List Pl} (hA : Okt A.1 A.2) (h : Fresh S X A) : Run1 S X := by
  have hx : X.hps.length ≤ 6 := by rw [h.hps]; simp
  obtain ⟨r1, r2, r3⟩ := h.rest
  refine ⟨h.good, ⟨A, ⟨by rw [h.bud, h.pools]; exact hA, hA, fun _ => ⟨r2, r3, by rw [h.bud, h.pools]⟩, fun _ => ?_, fun hb => ?_, fun hne => absurd r1 hne, fun s hs => ?_, fun hb => ?_⟩⟩, hx, by rw [r1]; simp⟩
  · rw [r1, h.bud, h.pools]; exact ⟨trivial, rfl⟩
  · rw [r2] at hb; simp at hb
  · rw [r1] at hs; simp at hs
  · rw [r2] at hb; simp at hb
end Lw
end Go.Proofs.YtohbonfngeblkaaGreat
namespace Go.Proofs.YtohbonfngeblkaaGreat
open Go.RowKit
namespace Lw
open Co
def Calm (S : Sta) : Prop := S.wts = [] ∧ ∀ x ∈ S.srv, x.client = 0
theorem leave_low {S : Sta} {op c : Int} (hc : 1 ≤ c ∧ c ≤ 99) (h : ∀ y ∈ S.wts, c ≤ y.client) : ∀ y ∈ (cLeave S op c).S.wts, c + 1 ≤ y.client := by
  have hk : ¬ okCli c = false := okCli_iff.2 hc
  unfold cLeave
  rw [if_neg hk]
  by_cases h1 : (S.wts.find? (isCliW c)).isSome = false
  · rw [if_pos h1]
    intro y hy
    have h2 := none_of_find h1 y hy
    have h3 : y.client ≠ c := fun e => by unfold isCliW at h2; rw [e] at h2; simp at h2
    have := h y hy
    omega
  · rw [if_neg h1]
    intro y hy
    obtain ⟨h2, h3⟩ := List.mem_filter.1 hy
    have h4 : y.client ≠ c := by simpa using h3
    have := h y h2
    omega
theorem leave_srv (S : Sta) (op c : Int) : (cLeave S op c).S.srv = S.srv := by
  unfold cLeave
  split
  · rfl
  · split <;> rfl
theorem done_low {S : Sta} {op c : Int} (hg : Good S op) (hc : 1 ≤ c ∧ c ≤ 99) (hw : S.wts = []) (h : ∀ x ∈ S.srv, x.client = 0 ∨ c ≤ x.client) : (cDone S op c).S.wts = [] ∧ ∀ x ∈ (cDone S op c).S.srv, x.client = 0 ∨ c + 1 ≤ x.client := by
  have hk : ¬ okCli c = false := okCli_iff.2 hc
  rcases done_cases hg c with ⟨h1, _, h3⟩ | ⟨_, _, _, s, hs, hsc, hR⟩
  · have hno : ∀ x ∈ S.srv, x.client ≠ c := by
      intro x hx e
      apply h3
      unfold cDone
      rw [if_neg hk]
      cases hf : S.srv.find? (isCliV c) with
      | none =>
        have := find_none' hf x hx
        unfold isCliV at this
        rw [e] at this
        simp at this
      | some s => rfl
    rw [h1]
    exact ⟨hw, fun x hx => by have := h x hx; have := hno x hx; omega⟩
  · obtain ⟨_, f1, _, _, _, f5, _⟩ := fine_done hg.fine hs (by omega)
    have hw2 : (cDone S op c).S.wts = [] := by
      have := hR.sub
      rw [f1, hw] at this
      exact List.sublist_nil.1 this
    refine ⟨hw2, fun x hx => ?_⟩
    by_cases h0 : x.client = 0
    · exact .inl h0
    · right
      rcases hR.new x hx h0 with h3 | ⟨y, hy, _⟩
      · obtain ⟨h4, h5⟩ := f5 x h3 h0
        have h6 : x.client ≠ c := fun e => by
          have a1 := hold_mem hg.fine h4 h0
          have a2 := hold_mem hg.fine hs (by omega)
          rw [e] at a1
          rw [hsc] at a2
          exact h5 (a1.symm.trans a2)
        have := h x h4
        omega
      · rw [f1, hw] at hy; simp at hy
theorem ended_calm {T : Sta} {op : Int} (hg : Good T op) (hc : ∀ x ∈ T.srv, x.client = 0) {s : Stp} {t0 : Int × List Pl} (hs : Df.goodS t0 s) (hu : Df.Up t0.2) (hn : okN s) (ht : (T.bud, T.pools) = Df.stepT t0 s) : cEnded s.kind s.name s.n T = true := by
  have e1 : T.bud = (Df.stepT t0 s).1 := congrArg Prod.fst ht
  have e2 : T.pools = (Df.stepT t0 s).2 := congrArg Prod.snd ht
  have hsur : ∀ x ∈ T.srv, ∃ p, T.pools.find? (isNameP x.pool) = some p ∧ x.far = p.fr ∧ (cntG (isPoolV x.pool) T.srv : Int) ≤ p.sz ∧ (T.srv.length : Int) ≤ T.bud := fun x hx => sur_no.1 (hg.fine.sur x hx (hc x hx))
  have hcnt : ∀ nm : ByteArray, ∀ n : Int, 0 ≤ n → (∀ x ∈ T.srv, isPoolV nm x = true → (cntG (isPoolV nm) T.srv : Int) ≤ n) → (cntG (isPoolV nm) T.srv : Int) ≤ n := by
    intro nm n h0 h
    rcases Nat.eq_zero_or_pos (cntG (isPoolV nm) T.srv) with h1 | h1
    · omega
    · obtain ⟨x, hx⟩ := List.exists_mem_of_length_pos h1
      obtain ⟨h2, h3⟩ := List.mem_filter.1 hx
      exact h x h2 h3
  unfold okN at hn
  unfold Df.stepT at e1 e2
  have hpool : ∀ (x : Srv) (f : Pl → Pl), (∀ p, (f p).nm = p.nm) → isPoolV s.name x = true → ∀ p, (Df.updT s.name f t0.2).find? (isNameP x.pool) = some p → ∃ q, p = f q := by
    intro x f hf hx p hp
    have hxn : x.pool = s.name := pool_eq hx
    have e := Df.lk_upd hf s.name x.pool t0.2
    unfold Df.lk at e
    rw [e, if_pos hxn.symm] at hp
    cases hq : t0.2.find? (isNameP x.pool) with
    | none => rw [hq] at hp; simp at hp
    | some q =>
      rw [hq] at hp
      exact ⟨q, (Option.some.inj hp).symm⟩
  have _ := hu
  unfold cEnded
  rcases hs with ⟨hk, _, _⟩ | ⟨hk, _, _⟩ | ⟨hk, _, _⟩ | ⟨hk, _, _⟩ | ⟨p0, hp0, hkk⟩
  · rw [if_neg (by omega), if_neg (by omega), if_pos hk]
    rw [if_pos (.inl hk)] at e1
    simp only at e1
    refine decide_eq_true ?_
    rcases Nat.eq_zero_or_pos T.srv.length with h1 | h1
    · omega
    · obtain ⟨x, hx⟩ := List.exists_mem_of_length_pos h1
      obtain ⟨_, _, _, _, h4⟩ := hsur x hx
      omega
  · rw [if_neg (by omega), if_neg (by omega), if_neg (by omega), if_neg (by omega)]
  · rw [if_neg (by omega), if_neg (by omega), if_neg (by omega), if_neg (by omega)]
  · rw [if_neg (by omega), if_pos hk]
    rw [if_neg (by omega), if_pos hk] at e2
    simp only at e2
    have h0 := hcnt s.name 0 (Int.le_refl _) (fun x hx hp => by
      obtain ⟨p, h1, _⟩ := hsur x hx
      exfalso
      have e := Df.lk_drop s.name x.pool t0.2
      unfold Df.lk at e
      rw [e2, e, if_pos (pool_eq hp).symm] at h1
      simp at h1)
    exact decide_eq_true (by omega)
  · rcases hkk with ⟨hk, _⟩ | ⟨hk, _⟩ | ⟨hk, _⟩ | ⟨hk, _⟩
    · rw [if_pos hk]
      rw [if_neg (by omega), if_neg (by omega), if_neg (by omega), if_neg (by omega), if_neg (by omega)] at e2
      simp only at e2
      refine decide_eq_true (hcnt s.name s.n (by omega) (fun x hx hp => ?_))
      obtain ⟨p, h1, _, h3, _⟩ := hsur x hx
      rw [e2] at h1
      obtain ⟨q, rfl⟩ := hpool x (fun p => ⟨p.nm, s.n, p.wt, p.fr⟩) (fun _ => rfl) hp p h1
      rw [pool_eq hp] at h3
      exact h3
    · rw [if_neg (by omega), if_neg (by omega), if_neg (by omega), if_pos hk]
      rw [if_neg (by omega), if_neg (by omega), if_neg (by omega), if_pos hk] at e2
      simp only at e2
      have : T.srv.any (othF s.name s.n) = false := by
        rw [List.any_eq_false]
        intro x hx hb
        unfold othF at hb
        rw [Bool.and_eq_true] at hb
        obtain ⟨p, h1, h2, _⟩ := hsur x hx
        rw [e2] at h1
        obtain ⟨q, rfl⟩ := hpool x (fun p => ⟨p.nm, p.sz, p.wt, s.n⟩) (fun _ => rfl) hb.1 p h1
        have h3 : x.far = s.n := h2
        have h4 := hb.2
        rw [h3] at h4
        simp at h4
      rw [this]; rfl
    · rw [if_neg (by omega), if_neg (by omega), if_neg (by omega), if_neg (by omega)]
    · rw [if_neg (by omega), if_neg (by omega), if_neg (by omega), if_neg (by omega)]
theorem turn_calm {S : Sta} {X : Aux} {g : Int × List Pl} (hg : Good S X.op) (h : Pln S X g) (hc : Calm S) {s : Stp} {r : List Stp} (hp : S.plan = s :: r) :
    (cTurn S X).n = r.length ∧ (cTurn S X).e = 0 ∧ (cTurn S X).S.plan = r ∧ Calm (cTurn S X).S := by
  obtain ⟨R, t, hb, hsv, hgd, hot, hrun, hfo, hbt, hbf⟩ := turn_mid hg h hp
  obtain ⟨⟨T, o⟩, hT⟩ : ∃ q, cTurnS s.kind s.name s.n S.begun S X.op = q := ⟨_, rfl⟩
  rw [hT] at hsv hgd
  simp only at hsv hgd
  have hRw : R.wts = [] := by
    have := hb.thin.2.2
    rw [hc.1] at this
    exact List.sublist_nil.1 this
  have hTR : T = R ∧ o = X.op := by
    have h3 : cTurnS s.kind s.name s.n S.begun S X.op = cServe R.wts.length R X.op := by
      cases hbg : S.begun with
      | true => rw [(hbt hbg).2]; unfold cTurnS; rfl
      | false => rw [(hbf hbg).2]; unfold cTurnS; rfl
    rw [hT, hRw] at h3
    have h4 : (T, o) = (R, X.op) := h3
    exact ⟨congrArg Prod.fst h4, congrArg Prod.snd h4⟩
  have hcT : Calm T := by
    rw [hTR.1]
    exact ⟨hRw, fun x hx => hc.2 x (hb.thin.1.subset hx)⟩
  have hokn := h.ok s (by rw [hp]; simp)
  have htt : (T.bud, T.pools) = t := by rw [hsv.rest.2.1, hsv.rest.1, hb.tab.1, hb.tab.2.1]
  have hend : cEnded s.kind s.name s.n T = true := by
    cases hbg : S.begun with
    | true =>
      obtain ⟨s', r', t0, e1, e2, e3, e4⟩ := h.did hbg
      have e5 : s' = s := by rw [hp] at e1; exact (List.cons.inj e1).1.symm
      subst e5
      refine ended_calm hgd hcT.2 e2 e3 hokn ?_
      rw [htt, (hbt hbg).1]; exact e4
    | false =>
      have hr := (h.rest hbg).1
      rw [hp] at hr
      refine ended_calm hgd hcT.2 hr.2.2.1 hr.1 hokn ?_
      rw [htt, (hbf hbg).1]
  have hTp : T.plan = s :: r := by rw [hsv.rest.2.2.1, hb.tab.2.2.1, hp]
  have e : cTurn S X = ⟨(cTurned T { X with op := o } true).1, (cTurned T { X with op := o } true).2, (cTurned T { X with op := o } true).1.plan.length, 0, 0⟩ := by
    unfold cTurn
    rw [hp]
    simp only
    rw [hT]
    simp only
    rw [hend]
  rw [e]
  simp only
  by_cases hr : r.length = 0
  · rw [turned_yes (by rw [hTp]; exact hr)]
    simp only
    rw [hTp]
    exact ⟨rfl, trivial, rfl, hcT⟩
  · rw [turned_on (by rw [hTp]; exact hr)]
    simp only
    rw [hTp]
    exact ⟨rfl, trivial, rfl, hcT⟩
end Lw
end Go.Proofs.YtohbonfngeblkaaGreat
