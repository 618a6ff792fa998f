
import Derived.Test.YtphkgbbfkibfbaaMpB
namespace Go.Proofs.Ytphkgbbfkibfbaa
open Go.RowKit
namespace Df
open Co Lw

/-- three runs of one shape: a number of a pool becomes the second table's -/
theorem run_upd {ba bb : Int} {ps qs : List Pl} (_ha : Okt ba ps) (hb : Okt bb qs) (kd : Int) (hkd : kd = 5 ∨ kd = 6 ∨ kd = 8) (pre : Option Pl → Option Pl → Option Pl) (f : Pl → Pl → Pl) (hf : ∀ q p, (f q p).nm = p.nm)
    (hst : ∀ b ts q, stepT (b, ts) (stepP kd q.nm (numP kd q)) = (b, updT q.nm (f q) ts))
    (hnone : ∀ A, pre A none = none)
    (hsome : ∀ A q, (∀ p, A = some p → p.nm = q.nm) → Okp q → ∃ p, pre A (some q) = some p ∧
      (leadsB kd (numP kd (match A with | some x => x | none => ⟨q.nm, 0, 0, 0⟩)) (numP kd q) = true → (kd = 5 → q.fr ≠ p.fr) ∧ (kd = 6 → q.wt ≠ p.wt) ∧ (kd = 8 → p.sz < q.sz)) ∧
      (leadsB kd (numP kd (match A with | some x => x | none => ⟨q.nm, 0, 0, 0⟩)) (numP kd q) = false → f q p = p))
    (b : Int) (ts0 : List Pl) (hu0 : Up ts0) (h0 : ∀ m, lk ts0 m = pre (lk ps m) (lk qs m)) :
    RunOk (b, ts0) (chgL kd ps qs) ∧ Up ((chgL kd ps qs).foldl stepT (b, ts0)).2 ∧ ((chgL kd ps qs).foldl stepT (b, ts0)).1 = b ∧ ∀ m, lk ((chgL kd ps qs).foldl stepT (b, ts0)).2 m = (match lk qs m with | some q => (pre (lk ps m) (lk qs m)).map (f q) | none => none) := by
  have hin : ∀ q, inP ps q = (match lk ps q with | some x => x | none => ⟨q, 0, 0, 0⟩) := by
    intro q
    cases h : lk ps q with
    | none => exact inP_none h
    | some p => exact inP_some h
  refine run_names (fun m => pre (lk ps m) (lk qs m)) (fun m => match lk qs m with | some q => (pre (lk ps m) (lk qs m)).map (f q) | none => none) b ?_ (chgL kd ps qs) (names_map (fun _ => rfl) _ hb.up) ?_ ts0 hu0 (fun s _ => h0 _) (fun m => .inl (h0 m)) ?_
  · intro ts hu h
    refine Nat.le_trans (len_qs hb hu (fun m x hx hn => ?_)) hb.len
    have hh := h m
    simp only [hn, hnone] at hh
    rw [hx] at hh
    simp at hh
  · intro s hs ts hu _ hl
    obtain ⟨q, hq, rfl⟩ := List.mem_map.1 hs
    obtain ⟨hq, hc⟩ := List.mem_filter.1 hq
    have hqq := lk_of_mem hb.up hq
    obtain ⟨p, hp, hg, _⟩ := hsome (lk ps q.nm) q (fun p hp => lk_nm hp) (hb.ok q hq)
    have hl' : lk ts q.nm = some p := by
      have : lk ts q.nm = pre (lk ps q.nm) (lk qs q.nm) := hl
      rw [this, hqq, hp]
    have hgg := hg (by unfold chgP at hc; rw [hin] at hc; exact hc)
    rw [hst]
    refine ⟨.inr (.inr (.inr (.inr ⟨p, hl', ?_⟩))), up_upd (hf q) _ hu, rfl, fun m => ?_⟩
    · rcases hkd with rfl | rfl | rfl
      · exact .inr (.inl ⟨rfl, by show numP 5 q ≠ p.fr; simpa [numP] using hgg.1 rfl⟩)
      · exact .inr (.inr (.inl ⟨rfl, by show numP 6 q ≠ p.wt; simpa [numP] using hgg.2.1 rfl⟩))
      · exact .inr (.inr (.inr ⟨rfl, by show p.sz < numP 8 q; simpa [numP] using hgg.2.2 rfl⟩))
    · show lk (updT q.nm (f q) ts) m = if q.nm = m then _ else _
      rw [lk_upd (hf q)]
      by_cases hm : q.nm = m
      · subst hm
        rw [if_pos rfl, if_pos rfl, hl']
        simp only [hqq, hp]
      · rw [if_neg hm, if_neg hm]
  · intro m hm
    rw [h0]
    cases hq : lk qs m with
    | none => exact hnone _
    | some q =>
      have hqn := lk_nm hq
      obtain ⟨p, hp, _, hn⟩ := hsome (lk ps m) q (fun p hp => (lk_nm hp).trans hqn.symm) (hb.ok q (lk_mem hq))
      show pre (lk ps m) (some q) = (pre (lk ps m) (some q)).map (f q)
      rw [hp]
      have : leadsB kd (numP kd (match lk ps m with | some x => x | none => ⟨q.nm, 0, 0, 0⟩)) (numP kd q) = false := by
        cases hc : leadsB kd (numP kd (match lk ps m with | some x => x | none => ⟨q.nm, 0, 0, 0⟩)) (numP kd q) with
        | false => rfl
        | true =>
          exfalso
          refine hm (stepP kd q.nm (numP kd q)) (List.mem_map.2 ⟨q, List.mem_filter.2 ⟨lk_mem hq, ?_⟩, rfl⟩) hqn
          unfold chgP
          rw [hin, hqn]
          rw [hqn] at hc
          exact hc
      rw [Option.map_some, hn this]
theorem run5 {ba bb : Int} {ps qs : List Pl} (ha : Okt ba ps) (hb : Okt bb qs) (b : Int) (ts0 : List Pl) (hu0 : Up ts0) (h0 : ∀ m, lk ts0 m = s5 (lk ps m) (lk qs m)) :
    RunOk (b, ts0) (chgL 5 ps qs) ∧ Up ((chgL 5 ps qs).foldl stepT (b, ts0)).2 ∧ ((chgL 5 ps qs).foldl stepT (b, ts0)).1 = b ∧ ∀ m, lk ((chgL 5 ps qs).foldl stepT (b, ts0)).2 m = s6 (lk ps m) (lk qs m) := by
  obtain ⟨h1, h2, h3, h4⟩ := run_upd ha hb 5 (.inl rfl) s5 (fun q p => ⟨p.nm, p.sz, p.wt, q.fr⟩) (fun _ _ => rfl) (fun b ts q => by simp [stepT, stepP, numP]) (fun A => by cases A <;> rfl) (fun A q _ oq => by
    cases A with
    | none =>
      refine ⟨⟨q.nm, 0, 0, 0⟩, rfl, fun h => ⟨fun _ => by simpa [leadsB, numP] using h, fun h => by omega, fun h => by omega⟩, fun h => ?_⟩
      have : q.fr = 0 := by simpa [leadsB, numP] using h
      simp [this]
    | some p =>
      refine ⟨if q.sz < p.sz then ⟨p.nm, q.sz, p.wt, p.fr⟩ else p, rfl, fun h => ⟨fun _ => ?_, fun h => by omega, fun h => by omega⟩, fun h => ?_⟩
      · have : q.fr ≠ p.fr := by simpa [leadsB, numP] using h
        split <;> exact this
      · have : q.fr = p.fr := by simpa [leadsB, numP] using h
        split <;> simp [this]) b ts0 hu0 h0
  exact ⟨h1, h2, h3, fun m => by rw [h4]; cases lk qs m <;> rfl⟩
theorem s6_some (A : Option Pl) (q : Pl) : s6 A (some q) = some (match A with | some p => (if q.sz < p.sz then ⟨p.nm, q.sz, p.wt, q.fr⟩ else ⟨p.nm, p.sz, p.wt, q.fr⟩) | none => ⟨q.nm, 0, 0, q.fr⟩) := by
  cases A with
  | none => rfl
  | some p => simp only [s6, s5, s3, s2]; split <;> rfl
theorem run6 {ba bb : Int} {ps qs : List Pl} (ha : Okt ba ps) (hb : Okt bb qs) (b : Int) (ts0 : List Pl) (hu0 : Up ts0) (h0 : ∀ m, lk ts0 m = s6 (lk ps m) (lk qs m)) :
    RunOk (b, ts0) (chgL 6 ps qs) ∧ Up ((chgL 6 ps qs).foldl stepT (b, ts0)).2 ∧ ((chgL 6 ps qs).foldl stepT (b, ts0)).1 = b ∧ ∀ m, lk ((chgL 6 ps qs).foldl stepT (b, ts0)).2 m = s7 (lk ps m) (lk qs m) := by
  obtain ⟨h1, h2, h3, h4⟩ := run_upd ha hb 6 (.inr (.inl rfl)) s6 (fun q p => ⟨p.nm, p.sz, q.wt, p.fr⟩) (fun _ _ => rfl) (fun b ts q => by simp [stepT, stepP, numP]) (fun A => rfl) (fun A q _ oq => by
    rw [s6_some]
    cases A with
    | none =>
      refine ⟨_, rfl, fun h => ⟨fun h => by omega, fun _ => by simpa [leadsB, numP] using h, fun h => by omega⟩, fun h => ?_⟩
      have : q.wt = 0 := by simpa [leadsB, numP] using h
      simp [this]
    | some p =>
      refine ⟨_, rfl, fun h => ⟨fun h => by omega, fun _ => ?_, fun h => by omega⟩, fun h => ?_⟩
      · have : q.wt ≠ p.wt := by simpa [leadsB, numP] using h
        simp only
        split <;> exact this
      · have : q.wt = p.wt := by simpa [leadsB, numP] using h
        simp only
        split <;> simp [this]) b ts0 hu0 h0
  exact ⟨h1, h2, h3, fun m => by rw [h4]; cases lk qs m <;> rfl⟩
theorem s7_some (A : Option Pl) (q : Pl) : s7 A (some q) = some (match A with | some p => (if q.sz < p.sz then ⟨p.nm, q.sz, q.wt, q.fr⟩ else ⟨p.nm, p.sz, q.wt, q.fr⟩) | none => ⟨q.nm, 0, q.wt, q.fr⟩) := by
  unfold s7
  simp only [s6_some]
  cases A with
  | none => rfl
  | some p => simp only [Option.map_some]; split <;> rfl
theorem run8 {ba bb : Int} {ps qs : List Pl} (ha : Okt ba ps) (hb : Okt bb qs) (b : Int) (ts0 : List Pl) (hu0 : Up ts0) (h0 : ∀ m, lk ts0 m = s7 (lk ps m) (lk qs m)) :
    RunOk (b, ts0) (chgL 8 ps qs) ∧ Up ((chgL 8 ps qs).foldl stepT (b, ts0)).2 ∧ ((chgL 8 ps qs).foldl stepT (b, ts0)).1 = b ∧ ∀ m, lk ((chgL 8 ps qs).foldl stepT (b, ts0)).2 m = lk qs m := by
  obtain ⟨h1, h2, h3, h4⟩ := run_upd ha hb 8 (.inr (.inr rfl)) s7 (fun q p => ⟨p.nm, q.sz, p.wt, p.fr⟩) (fun _ _ => rfl) (fun b ts q => by simp [stepT, stepP, numP]) (fun A => rfl) (fun A q _ oq => by
    rw [s7_some]
    cases A with
    | none =>
      refine ⟨_, rfl, fun h => ⟨fun h => by omega, fun h => by omega, fun _ => by simpa [leadsB, numP] using h⟩, fun h => ?_⟩
      have h2 : q.sz ≤ 0 := by simpa [leadsB, numP] using h
      have : q.sz = 0 := by have := oq.s0; omega
      simp [this]
    | some p =>
      refine ⟨_, rfl, fun h => ⟨fun h => by omega, fun h => by omega, fun _ => ?_⟩, fun h => ?_⟩
      · have : p.sz < q.sz := by simpa [leadsB, numP] using h
        simp only
        split
        · omega
        · exact this
      · have h2 : q.sz ≤ p.sz := by simpa [leadsB, numP] using h
        simp only
        split
        · rfl
        · have : q.sz = p.sz := by omega
          simp [this]) b ts0 hu0 h0
  refine ⟨h1, h2, h3, fun m => ?_⟩
  rw [h4]
  cases hq : lk qs m with
  | none => rfl
  | some q => exact s9_some (fun p hp => (lk_nm hp).trans (lk_nm hq).symm)
end Df
end Go.Proofs.Ytphkgbbfkibfbaa
