import Derived.Test.YtohbonfngeblkaaGreatMbAz
namespace Go.Proofs.YtohbonfngeblkaaGreat
open Go.RowKit
namespace Lw
open Co
def szT (t : Int × List Pl) (nm : ByteArray) : Int := match t.2.find? (isNameP nm) with | some p => p.sz | none => 0
def grt (a b : Int) : Int := if b < a then a else b
theorem grt_l (a b : Int) : a ≤ grt a b := by unfold grt; split <;> omega
theorem grt_r (a b : Int) : b ≤ grt a b := by unfold grt; split <;> omega
structure Lim (A B : Int × List Pl) (S : Sta) (X : Aux) : Prop where
  tab : ∀ nm p, S.pools.find? (isNameP nm) = some p → p.sz ≤ grt (szT A nm) (szT B nm)
  bud : S.bud ≤ grt A.1 B.1
  home : ∀ nm p, X.hps.find? (isNameP nm) = some p → p.sz ≤ grt (szT A nm) (szT B nm)
  hb : X.hb ≤ grt A.1 B.1
  stp : ∀ s ∈ S.plan, ((s.kind = 1 ∨ s.kind = 8) → s.n ≤ grt (szT A s.name) (szT B s.name)) ∧ ((s.kind = 3 ∨ s.kind = 7) → s.n ≤ grt A.1 B.1)
  cnt : ∀ nm, (cntG (isPoolV nm) S.srv : Int) ≤ grt (szT A nm) (szT B nm)
  len : (S.srv.length : Int) ≤ grt A.1 B.1
theorem szT_nn {t : Int × List Pl} (h : Okt t.1 t.2) (nm : ByteArray) : 0 ≤ szT t nm := by
  unfold szT
  cases hf : t.2.find? (isNameP nm) with
  | none => simp
  | some p => exact (h.ok p (List.mem_of_find?_eq_some hf)).s0
theorem szT_mem {t : Int × List Pl} (h : Okt t.1 t.2) {q : Pl} (hq : q ∈ t.2) : szT t q.nm = q.sz := by
  unfold szT
  rw [find_self h hq]
theorem lim_srvd {A B : Int × List Pl} {R T : Sta} {op op' : Int} (h : Srvd R T op op') (h1 : ∀ nm p, R.pools.find? (isNameP nm) = some p → p.sz ≤ grt (szT A nm) (szT B nm)) (h2 : R.bud ≤ grt A.1 B.1) (h3 : ∀ nm, (cntG (isPoolV nm) R.srv : Int) ≤ grt (szT A nm) (szT B nm)) (h4 : (R.srv.length : Int) ≤ grt A.1 B.1) :
    (∀ nm, (cntG (isPoolV nm) T.srv : Int) ≤ grt (szT A nm) (szT B nm)) ∧ (T.srv.length : Int) ≤ grt A.1 B.1 := by
  refine ⟨fun nm => ?_, ?_⟩
  · rcases h.cnt nm with h5 | ⟨p, hp, h5⟩
    · have := h3 nm; omega
    · have := h1 nm p hp; omega
  · rcases h.len with h5 | h5 <;> omega
theorem lim_lease {A B : Int × List Pl} {S T R : Sta} {X : Aux} {op op' o : Int} (h : Lim A B S X) (hR : Srvd R T op op') (hp : R.pools = S.pools) (hb : R.bud = S.bud) (hl : R.plan = S.plan) (hc : ∀ nm, cntG (isPoolV nm) R.srv ≤ cntG (isPoolV nm) S.srv) (hlen : R.srv.length ≤ S.srv.length) : Lim A B T { X with op := o } := by
  obtain ⟨k1, k2⟩ := lim_srvd hR (by rw [hp]; exact h.tab) (by rw [hb]; exact h.bud) (fun nm => by have h1 := h.cnt nm; have h2 := hc nm; omega) (by have := h.len; omega)
  exact ⟨by rw [hR.rest.1, hp]; exact h.tab, by rw [hR.rest.2.1, hb]; exact h.bud, h.home, h.hb, by rw [hR.rest.2.2.1, hl]; exact h.stp, k1, k2⟩
theorem lim_same {A B : Int × List Pl} {S T : Sta} {X : Aux} {o : Int} (h : Lim A B S X) (hr : Rest S T) (hs : T.srv = S.srv) : Lim A B T { X with op := o } :=
  ⟨by rw [hr.1]; exact h.tab, by rw [hr.2.1]; exact h.bud, h.home, h.hb, by rw [hr.2.2.1]; exact h.stp, by rw [hs]; exact h.cnt, by rw [hs]; exact h.len⟩
theorem lim_step {A B : Int × List Pl} (hA : Okt A.1 A.2) {t : Int × List Pl} {s : Stp} (h1 : ∀ nm p, t.2.find? (isNameP nm) = some p → p.sz ≤ grt (szT A nm) (szT B nm)) (h2 : t.1 ≤ grt A.1 B.1) (hg : Df.goodS t s)
    (hs : ((s.kind = 1 ∨ s.kind = 8) → s.n ≤ grt (szT A s.name) (szT B s.name)) ∧ ((s.kind = 3 ∨ s.kind = 7) → s.n ≤ grt A.1 B.1)) :
    (∀ nm p, (Df.stepT t s).2.find? (isNameP nm) = some p → p.sz ≤ grt (szT A nm) (szT B nm)) ∧ (Df.stepT t s).1 ≤ grt A.1 B.1 := by
  have hu : ∀ (f : Pl → Pl), (∀ p, (f p).nm = p.nm) → (∀ p, (f p).sz = p.sz ∨ (f p).sz ≤ grt (szT A s.name) (szT B s.name)) → ∀ nm p, (Df.updT s.name f t.2).find? (isNameP nm) = some p → p.sz ≤ grt (szT A nm) (szT B nm) := by
    intro f hf hsz nm p hp
    have e := Df.lk_upd hf s.name nm t.2
    unfold Df.lk at e
    rw [e] at hp
    by_cases hn : s.name = nm
    · rw [if_pos hn] at hp
      cases hf0 : t.2.find? (isNameP nm) with
      | none => rw [hf0] at hp; simp at hp
      | some q =>
        rw [hf0] at hp
        simp only [Option.map_some, Option.some.injEq] at hp
        subst hp
        rcases hsz q with h3 | h3
        · rw [h3]; exact h1 nm q hf0
        · rw [← hn]; exact h3
    · rw [if_neg hn] at hp
      exact h1 nm p hp
  unfold Df.stepT
  rcases hg with ⟨hk, _, _⟩ | ⟨hk, _, _⟩ | ⟨hk, _, hno, _, _, _⟩ | ⟨hk, _, _⟩ | ⟨p0, hp0, hkk⟩
  · rw [if_pos (.inl hk)]; exact ⟨h1, hs.2 (.inl hk)⟩
  · rw [if_pos (.inr hk)]; exact ⟨h1, hs.2 (.inr hk)⟩
  · rw [if_neg (by omega), if_neg (by omega), if_pos hk]
    refine ⟨fun nm p hp => ?_, h2⟩
    have e := Df.lk_ins (⟨s.name, 0, 0, 0⟩ : Pl) nm t.2 hno
    unfold Df.lk at e
    have hp' : (insP ⟨s.name, 0, 0, 0⟩ t.2).find? (isNameP nm) = some p := hp
    rw [e] at hp'
    by_cases hn : s.name = nm
    · rw [if_pos hn] at hp'
      have : p = ⟨s.name, 0, 0, 0⟩ := (Option.some.inj hp').symm
      rw [this]
      have h3 := szT_nn hA nm
      have h4 := grt_l (szT A nm) (szT B nm)
      show (0 : Int) ≤ _
      omega
    · rw [if_neg hn] at hp'
      exact h1 nm p hp'
  · rw [if_neg (by omega), if_pos hk]
    refine ⟨fun nm p hp => ?_, h2⟩
    have e := Df.lk_drop s.name nm t.2
    unfold Df.lk at e
    have hp' : (Df.dropT s.name t.2).find? (isNameP nm) = some p := hp
    rw [e] at hp'
    by_cases hn : s.name = nm
    · rw [if_pos hn] at hp'; simp at hp'
    · rw [if_neg hn] at hp'; exact h1 nm p hp'
  · rcases hkk with ⟨hk, _⟩ | ⟨hk, _⟩ | ⟨hk, _⟩ | ⟨hk, _⟩
    · rw [if_neg (by omega), if_neg (by omega), if_neg (by omega), if_neg (by omega), if_neg (by omega)]
      exact ⟨hu _ (fun _ => rfl) (fun _ => .inr (hs.1 (.inl hk))), h2⟩
    · rw [if_neg (by omega), if_neg (by omega), if_neg (by omega), if_pos hk]
      exact ⟨hu _ (fun _ => rfl) (fun _ => .inl rfl), h2⟩
    · rw [if_neg (by omega), if_neg (by omega), if_neg (by omega), if_neg (by omega), if_pos hk]
      exact ⟨hu _ (fun _ => rfl) (fun _ => .inl rfl), h2⟩
    · rw [if_neg (by omega), if_neg (by omega), if_neg (by omega), if_neg (by omega), if_neg (by omega)]
      exact ⟨hu _ (fun _ => rfl) (fun _ => .inr (hs.1 (.inr hk))), h2⟩
theorem lim_diff {A B : Int × List Pl} {ba bb : Int} {ps qs : List Pl} (h1 : ∀ q ∈ qs, q.sz ≤ grt (szT A q.nm) (szT B q.nm)) (h2 : bb ≤ grt A.1 B.1) : ∀ s ∈ Df.diffL ba ps bb qs, ((s.kind = 1 ∨ s.kind = 8) → s.n ≤ grt (szT A s.name) (szT B s.name)) ∧ ((s.kind = 3 ∨ s.kind = 7) → s.n ≤ grt A.1 B.1) := by
  intro s hs
  rcases diff_mem hs with ⟨hk, q, hq, hnm, hn⟩ | ⟨hk, hn⟩ | ⟨hk, hn⟩ | ⟨hk, hn⟩
  · refine ⟨fun hk2 => ?_, fun hk2 => by omega⟩
    rw [hnm]
    have : s.n = q.sz := by rw [hn]; rcases hk2 with e | e <;> rw [e] <;> simp [Df.numP]
    rw [this]
    exact h1 q hq
  · exact ⟨fun h => by omega, fun h => by omega⟩
  · exact ⟨fun h => by omega, fun h => by omega⟩
  · exact ⟨fun h => by omega, fun _ => by rw [hn]; exact h2⟩
theorem lim_tables {A B T : Int × List Pl} (hA : Okt A.1 A.2) (hB : Okt B.1 B.2) (hT : T = A ∨ T = B) : (∀ q ∈ T.2, q.sz ≤ grt (szT A q.nm) (szT B q.nm)) ∧ T.1 ≤ grt A.1 B.1 := by
  rcases hT with rfl | rfl
  · exact ⟨fun q hq => by have := szT_mem hA hq; have := grt_l (szT T q.nm) (szT B q.nm); omega, grt_l _ _⟩
  · exact ⟨fun q hq => by have := szT_mem hB hq; have := grt_r (szT A q.nm) (szT T q.nm); omega, grt_r _ _⟩
theorem lim_turned {A B : Int × List Pl} {T : Sta} {X : Aux} (d : Bool) (h : Lim A B T X) (h0 : 0 ≤ grt A.1 B.1) : Lim A B (cTurned T X d).1 (cTurned T X d).2 := by
  have ht : ∀ s ∈ T.plan.tail, s ∈ T.plan := fun s hs => List.mem_of_mem_tail hs
  unfold cTurned
  split
  · split
    · exact ⟨h.tab, h.bud, fun nm p hp => by simp at hp, h0, fun s hs => h.stp s (ht s hs), h.cnt, h.len⟩
    · exact ⟨h.tab, h.bud, h.home, h.hb, fun s hs => h.stp s (ht s hs), h.cnt, h.len⟩
  · exact ⟨h.tab, h.bud, h.home, h.hb, h.stp, h.cnt, h.len⟩
theorem step_lim {A B : Int × List Pl} {kd a p : Int} {S : Sta} {X : Aux} {S' : Sta} {X' : Aux} {n er : Int} (hA : Okt A.1 A.2) (hB : Okt B.1 B.2) (h : Run1 S X) (hl : Lim A B S X) (hs : StepR A B kd a p S X S' X' n er) : Lim A B S' X' := by
  obtain ⟨g, hpl⟩ := h.pln
  have hg0 : 0 ≤ grt A.1 B.1 := by have := hA.b0; have := grt_l A.1 B.1; omega
  rcases hs with ⟨hk, rfl, rfl, rfl, rfl⟩ | ⟨hk, rfl, rfl, rfl, rfl⟩ | ⟨hk, rfl, rfl, rfl, rfl⟩ | ⟨hk, rfl, rfl, rfl, rfl⟩ | ⟨hk, rfl, rfl, rfl, rfl⟩ | ⟨hk, T, hT, rfl, rfl, rfl, rfl⟩ | ⟨hk, rfl, rfl, rfl, rfl⟩ | ⟨hk, rfl, rfl, rfl, rfl⟩
  · rcases ask_cases h.good a (gNm A.2 B.2 p) with ⟨h1, _, _, _⟩ | ⟨_, _, _, _, _, x, _, e1, _, hR, _⟩
    · rw [h1]; exact lim_same hl (Rest.refl _) rfl
    · rw [e1]
      exact lim_lease hl hR rfl rfl rfl (fun _ => Nat.le_refl _) (Nat.le_refl _)
  · rcases done_cases h.good a with ⟨h1, _, _⟩ | ⟨_, _, _, s, hs, hsc, hR⟩
    · rw [h1]; exact lim_same hl (Rest.refl _) rfl
    · obtain ⟨_, _, f2, f3, _, _, _, f7, f8, f9, _⟩ := fine_done h.good.fine hs (by omega)
      exact lim_lease hl hR f2 f3 f9 f7 f8
  · refine lim_same hl (leave_pot S X.op a).2 ?_
    unfold cLeave
    split
    · rfl
    · split <;> rfl
  · rcases crash_cases h.good a with ⟨h1, _, _⟩ | ⟨_, _, hR⟩
    · rw [h1]; exact lim_same hl (Rest.refl _) rfl
    · exact lim_lease hl hR rfl rfl rfl (fun _ => cnt_sub List.filter_sublist) List.filter_sublist.length_le
  · cases hp : S.plan with
    | nil =>
      have e : cTurn S X = ⟨S, X, 0, 14, 0⟩ := by unfold cTurn; rw [hp]
      rw [e]; exact hl
    | cons s r =>
      obtain ⟨R, t, hb, hsv, _, _, _, _, hbt, hbf⟩ := turn_mid h.good hpl hp
      have e1 : (cTurn S X).S = (cTurned (cTurnS s.kind s.name s.n S.begun S X.op).1 { X with op := (cTurnS s.kind s.name s.n S.begun S X.op).2 } (cEnded s.kind s.name s.n (cTurnS s.kind s.name s.n S.begun S X.op).1)).1 := by unfold cTurn; rw [hp]
      have e2 : (cTurn S X).X = (cTurned (cTurnS s.kind s.name s.n S.begun S X.op).1 { X with op := (cTurnS s.kind s.name s.n S.begun S X.op).2 } (cEnded s.kind s.name s.n (cTurnS s.kind s.name s.n S.begun S X.op).1)).2 := by unfold cTurn; rw [hp]
      rw [e1, e2]
      refine lim_turned _ ?_ hg0
      have ht : (∀ nm q, t.2.find? (isNameP nm) = some q → q.sz ≤ grt (szT A nm) (szT B nm)) ∧ t.1 ≤ grt A.1 B.1 := by
        cases hbg : S.begun with
        | true => rw [(hbt hbg).1]; exact ⟨hl.tab, hl.bud⟩
        | false =>
          rw [(hbf hbg).1]
          have hr := (hpl.rest hbg).1
          rw [hp] at hr
          exact lim_step hA hl.tab hl.bud hr.2.2.1 (hl.stp s (by rw [hp]; simp))
      obtain ⟨k1, k2⟩ := lim_srvd (A := A) (B := B) hsv (by rw [hb.tab.2.1]; exact ht.1) (by rw [hb.tab.1]; exact ht.2) (fun nm => by have h1 := hl.cnt nm; have h2 := cnt_sub (p := isPoolV nm) hb.thin.1; omega) (by have h1 := hl.len; have h2 := hb.thin.1.length_le; omega)
      exact ⟨by rw [hsv.rest.1, hb.tab.2.1]; exact ht.1, by rw [hsv.rest.2.1, hb.tab.1]; exact ht.2, hl.home, hl.hb, by rw [hsv.rest.2.2.1, hb.tab.2.2.1]; exact hl.stp, k1, k2⟩
  · obtain ⟨t1, t2⟩ := lim_tables hA hB hT
    unfold cReload
    split
    · exact hl
    · split
      · exact hl
      · refine ⟨hl.tab, hl.bud, ?_, ?_, lim_diff t1 t2, hl.cnt, hl.len⟩
        · intro nm q hq
          simp only at hq
          unfold fwdH at hq
          split at hq
          · simp at hq
          · exact hl.tab nm q hq
        · simp only
          unfold fwdH
          split
          · exact hg0
          · exact hl.bud
  · unfold cAbort
    split
    · exact hl
    · rename_i hne
      split
      · exact hl
      · rename_i hbk
        have hot := hpl.home (fun e => hne (by rw [e]; rfl)) (bool_ne hbk)
        refine ⟨hl.tab, hl.bud, fun nm q hq => by simp at hq, hg0, lim_diff (fun q hq => hl.home q.nm q (find_self (b := X.hb) hot hq)) hl.hb, hl.cnt, hl.len⟩
  · exact hl
theorem lim_fresh {S : Sta} {X : Aux} {A B : Int × List Pl} (hA : Okt A.1 A.2) (h : Fresh S X A) : Lim A B S X := by
  have h0 := hA.b0
  have g1 := grt_l A.1 B.1
  obtain ⟨hc, hl⟩ := h.cnt
  refine ⟨fun nm p hp => ?_, by rw [h.bud]; exact g1, fun nm p hp => ?_, by rw [h.hb]; omega, fun s hs => ?_, fun nm => ?_, by omega⟩
  · rw [h.pools] at hp
    have h1 : szT A nm = p.sz := by unfold szT; rw [hp]
    have := grt_l (szT A nm) (szT B nm)
    omega
  · rw [h.hps] at hp; simp at hp
  · rw [h.rest.1] at hs; simp at hs
  · have h2 := grt_l (szT A nm) (szT B nm)
    have h3 := szT_nn hA nm
    rcases hc nm with h1 | ⟨p, hp, h1⟩
    · omega
    · have h4 : szT A nm = p.sz := by unfold szT; rw [hp]
      omega
end Lw
end Go.Proofs.YtohbonfngeblkaaGreat
