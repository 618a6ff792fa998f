import Derived.Test.YtohbonfngeblkaaGreatMrAm
import Derived.Test.YtohbonfngeblkaaGreatMrK
import Derived.Test.YtohbonfngeblkaaGreatMrAj
namespace Go.Proofs.YtohbonfngeblkaaGreat
open Go.RowKit
namespace Df
open Co Lw
theorem run_upd {ba bb : Int} {ps qs : List Pl} (_ha : Okt ba ps) (hb : Okt bb qs) (kd : Int) (hkd : kd = 5 ∨ kd = 6 ∨ kd = 8) (pre : Option Pl → Option Pl → Option Pl) (f : Pl → Pl → Pl) (hf : ∀ q p, (f q p).nm = p.nm)
    (hst : ∀ b ts q, stepT (b, ts) (stepP kd q.nm (numP kd q)) = (b, updT q.nm (f q) ts))
    (hnone : ∀ A, pre A none = none)
    (hsome : ∀ A q, (∀ p, A = some p → p.nm = q.nm) → Okp q → ∃ p, pre A (some q) = some p ∧
      (leadsB kd (numP kd (match A with | some x => x | none => ⟨q.nm, 0, 0, 0⟩)) (numP kd q) = true → (kd = 5 → q.fr ≠ p.fr) ∧ (kd = 6 → q.wt ≠ p.wt) ∧ (kd = 8 → p.sz < q.sz)) ∧
      (leadsB kd (numP kd (match A with | some x => x | none => ⟨q.nm, 0, 0, 0⟩)) (numP kd q) = false → f q p = p))
    (b : Int) (ts0 : List Pl) (hu0 : Up ts0) (h0 : ∀ m, lk ts0 m = pre (lk ps m) (lk qs m)) :
    RunOk (b, ts0) (chgL kd ps qs) ∧ Up ((chgL kd ps qs).foldl stepT (b, ts0)).2 ∧ ((chgL kd ps qs).foldl stepT (b, ts0)).1 = b ∧ ∀ m, lk ((chgL kd ps qs).foldl stepT (b, ts0)).2 m = (match lk qs m with | some q => (pre (lk ps m) (lk qs m)).map (f q) | none => none) := by
  have hin : ∀ q, inP ps q = (match lk ps q with | some x => x | none => ⟨q, 0, 0, 0⟩) := by
    intro q
    cases h : lk ps q with
    | none => exact inP_none h
    | some p => exact inP_some h
  refine run_names (fun m => pre (lk ps m) (lk qs m)) (fun m => match lk qs m with | some q => (pre (lk ps m) (lk qs m)).map (f q) | none => none) b ?_ (chgL kd ps qs) (names_map (fun _ => rfl) _ hb.up) ?_ ts0 hu0 (fun s _ => h0 _) (fun m => .inl (h0 m)) ?_
  · intro ts hu h
    refine Nat.le_trans (len_qs hb hu (fun m x hx hn => ?_)) hb.len
    have hh := h m
    simp only [hn, hnone] at hh
    rw [hx] at hh
    simp at hh
  · intro s hs ts hu _ hl
    obtain ⟨q, hq, rfl⟩ := List.mem_map.1 hs
    obtain ⟨hq, hc⟩ := List.mem_filter.1 hq
    have hqq := lk_of_mem hb.up hq
    obtain ⟨p, hp, hg, _⟩ := hsome (lk ps q.nm) q (fun p hp => lk_nm hp) (hb.ok q hq)
    have hl' : lk ts q.nm = some p := by
      have : lk ts q.nm = pre (lk ps q.nm) (lk qs q.nm) := hl
      rw [this, hqq, hp]
    have hgg := hg (by unfold chgP at hc; rw [hin] at hc; exact hc)
    rw [hst]
    refine ⟨.inr (.inr (.inr (.inr ⟨p, hl', ?_⟩))), up_upd (hf q) _ hu, rfl, fun m => ?_⟩
    · rcases hkd with rfl | rfl | rfl
      · exact .inr (.inl ⟨rfl, by show numP 5 q ≠ p.fr; simpa [numP] using hgg.1 rfl⟩)
      · exact .inr (.inr (.inl ⟨rfl, by show numP 6 q ≠ p.wt; simpa [numP] using hgg.2.1 rfl⟩))
      · exact .inr (.inr (.inr ⟨rfl, by show p.sz < numP 8 q; simpa [numP] using hgg.2.2 rfl⟩))
    · show lk (updT q.nm (f q) ts) m = if q.nm = m then _ else _
      rw [lk_upd (hf q)]
      by_cases hm : q.nm = m
      · subst hm
        rw [if_pos rfl, if_pos rfl, hl']
        simp only [hqq, hp]
      · rw [if_neg hm, if_neg hm]
  · intro m hm
    rw [h0]
    cases hq : lk qs m with
    | none => exact hnone _
    | some q =>
      have hqn := lk_nm hq
      obtain ⟨p, hp, _, hn⟩ := hsome (lk ps m) q (fun p hp => (lk_nm hp).trans hqn.symm) (hb.ok q (lk_mem hq))
      show pre (lk ps m) (some q) = (pre (lk ps m) (some q)).map (f q)
      rw [hp]
      have : leadsB kd (numP kd (match lk ps m with | some x => x | none => ⟨q.nm, 0, 0, 0⟩)) (numP kd q) = false := by
        cases hc : leadsB kd (numP kd (match lk ps m with | some x => x | none => ⟨q.nm, 0, 0, 0⟩)) (numP kd q) with
        | false => rfl
        | true =>
          exfalso
          refine hm (stepP kd q.nm (numP kd q)) (List.mem_map.2 ⟨q, List.mem_filter.2 ⟨lk_mem hq, ?_⟩, rfl⟩) hqn
          unfold chgP
          rw [hin, hqn]
          rw [hqn] at hc
          exact hc
      rw [Option.map_some, hn this]
theorem run5 {ba bb : Int} {ps qs : List Pl} (ha : Okt ba ps) (hb : Okt bb qs) (b : Int) (ts0 : List Pl) (hu0 : Up ts0) (h0 : ∀ m, lk ts0 m = s5 (lk ps m) (lk qs m)) :
    RunOk (b, ts0) (chgL 5 ps qs) ∧ Up ((chgL 5 ps qs).foldl stepT (b, ts0)).2 ∧ ((chgL 5 ps qs).foldl stepT (b, ts0)).1 = b ∧ ∀ m, lk ((chgL 5 ps qs).foldl stepT (b, ts0)).2 m = s6 (lk ps m) (lk qs m) := by
  obtain ⟨h1, h2, h3, h4⟩ := run_upd ha hb 5 (.inl rfl) s5 (fun q p => ⟨p.nm, p.sz, p.wt, q.fr⟩) (fun _ _ => rfl) (fun b ts q => by simp [stepT, stepP, numP]) (fun A => by cases A <;> rfl) (fun A q _ oq => by
    cases A with
    | none =>
      refine ⟨⟨q.nm, 0, 0, 0⟩, rfl, fun h => ⟨fun _ => by simpa [leadsB, numP] using h, fun h => by omega, fun h => by omega⟩, fun h => ?_⟩
      have : q.fr = 0 := by simpa [leadsB, numP] using h
      simp [this]
    | some p =>
      refine ⟨if q.sz < p.sz then ⟨p.nm, q.sz, p.wt, p.fr⟩ else p, rfl, fun h => ⟨fun _ => ?_, fun h => by omega, fun h => by omega⟩, fun h => ?_⟩
      · have : q.fr ≠ p.fr := by simpa [leadsB, numP] using h
        split <;> exact this
      · have : q.fr = p.fr := by simpa [leadsB, numP] using h
        split <;> simp [this]) b ts0 hu0 h0
  exact ⟨h1, h2, h3, fun m => by rw [h4]; cases lk qs m <;> rfl⟩
theorem s6_some (A : Option Pl) (q : Pl) : s6 A (some q) = some (match A with | some p => (if q.sz < p.sz then ⟨p.nm, q.sz, p.wt, q.fr⟩ else ⟨p.nm, p.sz, p.wt, q.fr⟩) | none => ⟨q.nm, 0, 0, q.fr⟩) := by
  cases A with
  | none => rfl
  | some p => simp only [s6, s5, s3, s2]; split <;> rfl
theorem run6 {ba bb : Int} {ps qs : List Pl} (ha : Okt ba ps) (hb : Okt bb qs) (b : Int) (ts0 : List Pl) (hu0 : Up ts0) (h0 : ∀ m, lk ts0 m = s6 (lk ps m) (lk qs m)) :
    RunOk (b, ts0) (chgL 6 ps qs) ∧ Up ((chgL 6 ps qs).foldl stepT (b, ts0)).2 ∧ ((chgL 6 ps qs).foldl stepT (b, ts0)).1 = b ∧ ∀ m, lk ((chgL 6 ps qs).foldl stepT (b, ts0)).2 m = s7 (lk ps m) (lk qs m) := by
  obtain ⟨h1, h2, h3, h4⟩ := run_upd ha hb 6 (.inr (.inl rfl)) s6 (fun q p => ⟨p.nm, p.sz, q.wt, p.fr⟩) (fun _ _ => rfl) (fun b ts q => by simp [stepT, stepP, numP]) (fun A => rfl) (fun A q _ oq => by
    rw [s6_some]
    cases A with
    | none =>
      refine ⟨_, rfl, fun h => ⟨fun h => by omega, fun _ => by simpa [leadsB, numP] using h, fun h => by omega⟩, fun h => ?_⟩
      have : q.wt = 0 := by simpa [leadsB, numP] using h
      simp [this]
    | some p =>
      refine ⟨_, rfl, fun h => ⟨fun h => by omega, fun _ => ?_, fun h => by omega⟩, fun h => ?_⟩
      · have : q.wt ≠ p.wt := by simpa [leadsB, numP] using h
        simp only
        split <;> exact this
      · have : q.wt = p.wt := by simpa [leadsB, numP] using h
        simp only
        split <;> simp [this]) b ts0 hu0 h0
  exact ⟨h1, h2, h3, fun m => by rw [h4]; cases lk qs m <;> rfl⟩
theorem s7_some (A : Option Pl) (q : Pl) : s7 A (some q) = some (match A with | some p => (if q.sz < p.sz then ⟨p.nm, q.sz, q.wt, q.fr⟩ else ⟨p.nm, p.sz, q.wt, q.fr⟩) | none => ⟨q.nm, 0, q.wt, q.fr⟩) := by
  unfold s7
  simp only [s6_some]
  cases A with
  | none => rfl
  | some p => simp only [Option.map_some]; split <;> rfl
theorem run8 {ba bb : Int} {ps qs : List Pl} (ha : Okt ba ps) (hb : Okt bb qs) (b : Int) (ts0 : List Pl) (hu0 : Up ts0) (h0 : ∀ m, lk ts0 m = s7 (lk ps m) (lk qs m)) :
    RunOk (b, ts0) (chgL 8 ps qs) ∧ Up ((chgL 8 ps qs).foldl stepT (b, ts0)).2 ∧ ((chgL 8 ps qs).foldl stepT (b, ts0)).1 = b ∧ ∀ m, lk ((chgL 8 ps qs).foldl stepT (b, ts0)).2 m = lk qs m := by
  obtain ⟨h1, h2, h3, h4⟩ := run_upd ha hb 8 (.inr (.inr rfl)) s7 (fun q p => ⟨p.nm, q.sz, p.wt, p.fr⟩) (fun _ _ => rfl) (fun b ts q => by simp [stepT, stepP, numP]) (fun A => rfl) (fun A q _ oq => by
    rw [s7_some]
    cases A with
    | none =>
      refine ⟨_, rfl, fun h => ⟨fun h => by omega, fun h => by omega, fun _ => by simpa [leadsB, numP] using h⟩, fun h => ?_⟩
      have h2 : q.sz ≤ 0 := by simpa [leadsB, numP] using h
      have : q.sz = 0 := by have := oq.s0; omega
      simp [this]
    | some p =>
      refine ⟨_, rfl, fun h => ⟨fun h => by omega, fun h => by omega, fun _ => ?_⟩, fun h => ?_⟩
      · have : p.sz < q.sz := by simpa [leadsB, numP] using h
        simp only
        split
        · omega
        · exact this
      · have h2 : q.sz ≤ p.sz := by simpa [leadsB, numP] using h
        simp only
        split
        · rfl
        · have : q.sz = p.sz := by omega
          simp [this]) b ts0 hu0 h0
  refine ⟨h1, h2, h3, fun m => ?_⟩
  rw [h4]
  cases hq : lk qs m with
  | none => rfl
  | some q => exact s9_some (fun p hp => (lk_nm hp).trans (lk_nm hq).symm)
end Df
end Go.Proofs.YtohbonfngeblkaaGreat
namespace Go.Proofs.YtohbonfngeblkaaGreat
open Go.RowKit
namespace Df
open Co Lw
theorem diffL_parts (ba : Int) (ps : List Pl) (bb : Int) (qs : List Pl) : diffL ba ps bb qs = chgL 1 ps qs ++ missL 2 ps qs ++ budL 3 ba bb ++ missL 4 qs ps ++ chgL 5 ps qs ++ chgL 6 ps qs ++ budL 7 ba bb ++ chgL 8 ps qs := by
  unfold diffL
  rw [diffTo_succ 7, diffTo_succ 6, diffTo_succ 5, diffTo_succ 4, diffTo_succ 3, diffTo_succ 2, diffTo_succ 1, diffTo_succ 0]
  simp [diffTo, kindL]
theorem runB3 {ba bb : Int} {ts : List Pl} (hu : Up ts) (hl : ts.length ≤ 6) : RunOk (ba, ts) (budL 3 ba bb) ∧ (budL 3 ba bb).foldl stepT (ba, ts) = (if bb < ba then bb else ba, ts) := by
  unfold budL
  by_cases h : bb < ba
  · rw [if_pos (by simp [leadsB, h]), if_pos h]
    exact ⟨⟨hu, hl, .inl ⟨rfl, rfl, h⟩, trivial⟩, by simp [stepT]⟩
  · rw [if_neg (by simp [leadsB]; omega), if_neg h]
    exact ⟨trivial, rfl⟩
theorem runB7 {ba bb : Int} {ts : List Pl} (hu : Up ts) (hl : ts.length ≤ 6) : RunOk (if bb < ba then bb else ba, ts) (budL 7 ba bb) ∧ (budL 7 ba bb).foldl stepT (if bb < ba then bb else ba, ts) = (bb, ts) := by
  by_cases h : ba < bb
  · have e : budL 7 ba bb = [⟨7, ⟨#[]⟩, bb⟩] := by rw [budL, if_pos (by simp [leadsB, h])]
    rw [e, if_neg (by omega)]
    exact ⟨⟨hu, hl, .inr (.inl ⟨rfl, rfl, h⟩), trivial⟩, by simp [stepT]⟩
  · have e : budL 7 ba bb = [] := by rw [budL, if_neg (by simp [leadsB]; omega)]
    rw [e]
    refine ⟨trivial, ?_⟩
    by_cases h2 : bb < ba
    · rw [if_pos h2]; rfl
    · rw [if_neg h2, show ba = bb by omega]; rfl
theorem seq {t t1 : Int × List Pl} {l1 l2 : List Stp} (h1 : RunOk t l1) (e : l1.foldl stepT t = t1) (h2 : RunOk t1 l2) : RunOk t (l1 ++ l2) := RunOk.append h1 (by rw [e]; exact h2)
theorem seq_f {t t1 t2 : Int × List Pl} {l1 l2 : List Stp} (e : l1.foldl stepT t = t1) (e2 : l2.foldl stepT t1 = t2) : (l1 ++ l2).foldl stepT t = t2 := by rw [List.foldl_append, e, e2]
theorem run_all {ba bb : Int} {ps qs : List Pl} (ha : Okt ba ps) (hb : Okt bb qs) : RunOk (ba, ps) (diffL ba ps bb qs) ∧ (diffL ba ps bb qs).foldl stepT (ba, ps) = (bb, qs) := by
  rw [diffL_parts]
  have a0 := ha.b0
  have a1 := ha.b1
  have b0 := hb.b0
  have b1 := hb.b1
  obtain ⟨r1, u1, e1, k1⟩ := run1 ha hb ba
  obtain ⟨t1, h1⟩ : ∃ t1, (chgL 1 ps qs).foldl stepT (ba, ps) = (ba, t1) := ⟨_, Prod.ext e1 rfl⟩
  rw [h1] at u1 k1
  obtain ⟨r2, u2, e2, k2⟩ := run2 (qs := qs) ha ba t1 u1 k1
  obtain ⟨t2, h2⟩ : ∃ t2, (missL 2 ps qs).foldl stepT (ba, t1) = (ba, t2) := ⟨_, Prod.ext e2 rfl⟩
  rw [h2] at u2 k2
  have l2 : t2.length ≤ 6 := Nat.le_trans (len_qs hb u2 (fun m x hx hn => by
    have := k2 m
    simp only [hn, s3] at this
    rw [hx] at this
    simp at this)) hb.len
  obtain ⟨r3, h3⟩ := runB3 (ba := ba) (bb := bb) u2 l2
  obtain ⟨b', hb'⟩ : ∃ b', (if bb < ba then bb else ba) = b' := ⟨_, rfl⟩
  have c0 : 1 ≤ b' ∧ b' ≤ 99 := by rw [← hb']; split <;> omega
  rw [hb'] at h3
  obtain ⟨r4, u4, e4, k4⟩ := run4 ha hb b' c0.1 c0.2 t2 u2 k2
  obtain ⟨t4, h4⟩ : ∃ t4, (missL 4 qs ps).foldl stepT (b', t2) = (b', t4) := ⟨_, Prod.ext e4 rfl⟩
  rw [h4] at u4 k4
  obtain ⟨r5, u5, e5, k5⟩ := run5 ha hb b' t4 u4 k4
  obtain ⟨t5, h5⟩ : ∃ t5, (chgL 5 ps qs).foldl stepT (b', t4) = (b', t5) := ⟨_, Prod.ext e5 rfl⟩
  rw [h5] at u5 k5
  obtain ⟨r6, u6, e6, k6⟩ := run6 ha hb b' t5 u5 k5
  obtain ⟨t6, h6⟩ : ∃ t6, (chgL 6 ps qs).foldl stepT (b', t5) = (b', t6) := ⟨_, Prod.ext e6 rfl⟩
  rw [h6] at u6 k6
  have l6 : t6.length ≤ 6 := Nat.le_trans (len_qs hb u6 (fun m x hx hn => by
    have := k6 m
    simp only [hn, s7] at this
    rw [hx] at this
    simp at this)) hb.len
  obtain ⟨r7, h7⟩ := runB7 (ba := ba) (bb := bb) u6 l6
  rw [hb'] at r7 h7
  obtain ⟨r8, u8, e8, k8⟩ := run8 ha hb bb t6 u6 k6
  obtain ⟨t8, h8⟩ : ∃ t8, (chgL 8 ps qs).foldl stepT (bb, t6) = (bb, t8) := ⟨_, Prod.ext e8 rfl⟩
  rw [h8] at u8 k8
  obtain rfl : t8 = qs := up_ext u8 hb.up k8
  have q1 := r1
  have q2 := seq q1 h1 r2
  have f2 := seq_f h1 h2
  have q3 := seq q2 f2 r3
  have f3 := seq_f f2 h3
  have q4 := seq q3 f3 r4
  have f4 := seq_f f3 h4
  have q5 := seq q4 f4 r5
  have f5 := seq_f f4 h5
  have q6 := seq q5 f5 r6
  have f6 := seq_f f5 h6
  have q7 := seq q6 f6 r7
  have f7 := seq_f f6 h7
  exact ⟨seq q7 f7 r8, seq_f f7 h8⟩
def ordS (s t : Stp) : Prop := s.kind < t.kind ∨ (s.kind = t.kind ∧ lt s.name t.name = true)
theorem kind_all (k ba : Int) (ps : List Pl) (bb : Int) (qs : List Pl) : ∀ s ∈ kindL k ba ps bb qs, s.kind = k := by
  intro s hs
  unfold kindL at hs
  split at hs
  · obtain ⟨_, _, rfl⟩ := List.mem_map.1 hs; rfl
  · split at hs
    · obtain ⟨_, _, rfl⟩ := List.mem_map.1 hs; rfl
    · split at hs
      · unfold budL at hs
        split at hs
        · simp at hs; subst hs; rfl
        · simp at hs
      · obtain ⟨_, _, rfl⟩ := List.mem_map.1 hs; rfl
theorem ord_map {k : Int} {f : Pl → Stp} (hf : ∀ p, (f p).name = p.nm) (hk : ∀ p, (f p).kind = k) (c : Pl → Bool) {l : List Pl} (h : Up l) : ((l.filter c).map f).Pairwise ordS := by
  rw [List.pairwise_map]
  refine List.Pairwise.imp ?_ (List.Pairwise.filter _ h)
  intro a b hab
  refine .inr ⟨by rw [hk, hk], ?_⟩
  rw [hf, hf]
  exact hab
theorem kind_ord {ba bb : Int} {ps qs : List Pl} (ha : Okt ba ps) (hb : Okt bb qs) (k : Int) : (kindL k ba ps bb qs).Pairwise ordS := by
  unfold kindL
  split
  · exact ord_map (k := k) (fun _ => rfl) (fun _ => rfl) _ ha.up
  · split
    · exact ord_map (k := k) (fun _ => rfl) (fun _ => rfl) _ hb.up
    · split
      · unfold budL
        split <;> simp
      · exact ord_map (k := k) (fun _ => rfl) (fun _ => rfl) _ hb.up
theorem diff_kind {ba bb : Int} {ps qs : List Pl} : ∀ (n : Nat), ∀ s ∈ diffTo n ba ps bb qs, s.kind ≤ (n : Int)
  | 0, s, hs => by simp [diffTo] at hs
  | n + 1, s, hs => by
    rw [diffTo_succ] at hs
    rcases List.mem_append.1 hs with h | h
    · have := diff_kind n s h; omega
    · have := kind_all _ _ _ _ _ s h; omega
theorem diff_ord {ba bb : Int} {ps qs : List Pl} (ha : Okt ba ps) (hb : Okt bb qs) : ∀ (n : Nat), (diffTo n ba ps bb qs).Pairwise ordS
  | 0 => by simp [diffTo]
  | n + 1 => by
    rw [diffTo_succ, List.pairwise_append]
    refine ⟨diff_ord ha hb n, kind_ord ha hb _, fun s hs t ht => .inl ?_⟩
    have h1 := diff_kind n s hs
    have h2 := kind_all _ _ _ _ _ t ht
    omega
theorem diff_self {b : Int} {qs : List Pl} (hb : Okt b qs) : diffL b qs b qs = [] := by
  have hm : ∀ k, missL k qs qs = [] := by
    intro k
    unfold missL
    rw [List.map_eq_nil_iff, List.filter_eq_nil_iff]
    intro p hp
    have : hasP qs p = true := hasP_lk.2 (by rw [lk_of_mem hb.up hp]; simp)
    simp [this]
  have hc : ∀ k, chgL k qs qs = [] := by
    intro k
    unfold chgL
    rw [List.map_eq_nil_iff, List.filter_eq_nil_iff]
    intro p hp
    unfold chgP
    rw [inP_some (lk_of_mem hb.up hp)]
    unfold leadsB
    split
    · simp
    · split <;> simp
  have hbu : ∀ k, budL k b b = [] := by
    intro k
    unfold budL
    rw [if_neg]
    unfold leadsB
    split
    · simp
    · split <;> simp
  rw [diffL_parts, hc, hm, hbu, hm, hc, hc, hbu, hc]
  rfl
end Df
end Go.Proofs.YtohbonfngeblkaaGreat
namespace Go.Proofs.YtohbonfngeblkaaGreat
open Go.RowKit
namespace Lw
open Co
theorem ins_upd {ps : List Pl} (hu : Df.Up ps) {nm : ByteArray} {p : Pl} (hp : Df.lk ps nm = some p) {f : Pl → Pl} (hf : ∀ q, (f q).nm = q.nm) : insP (f p) (ps.filter (othN nm)) = Df.updT nm f ps := by
  have hpn := Df.lk_nm hp
  have hd : ps.filter (othN nm) = Df.dropT nm ps := rfl
  have hfn : (f p).nm = nm := (hf p).trans hpn
  have hno : Df.lk (Df.dropT nm ps) (f p).nm = none := by rw [Df.lk_drop, if_pos hfn.symm]
  rw [hd]
  refine Df.up_ext (Df.up_ins _ (Df.up_drop nm hu) hno) (Df.up_upd hf nm hu) (fun m => ?_)
  rw [Df.lk_ins _ _ _ hno, Df.lk_upd hf, Df.lk_drop, hfn]
  by_cases h : nm = m
  · rw [if_pos h, if_pos h, ← h, hp]; rfl
  · rw [if_neg h, if_neg h, if_neg h]
theorem inP_lk {ps : List Pl} {nm : ByteArray} {p : Pl} (h : Df.lk ps nm = some p) : Df.inP ps nm = p := Df.inP_some h
theorem take_step {t : Int × List Pl} {s : Stp} (hu : Df.Up t.2) (hg : Df.goodS t s) : takeT s.kind s.name s.n t.1 t.2 = Df.stepT t s := by
  unfold takeT Df.stepT
  by_cases h3 : s.kind = 3 ∨ s.kind = 7
  · rw [if_pos h3, if_pos h3]
  · rw [if_neg h3, if_neg h3]
    by_cases h2 : s.kind = 2
    · rw [if_pos h2, if_pos h2]; rfl
    · rw [if_neg h2, if_neg h2]
      by_cases h4 : s.kind = 4
      · rw [if_pos h4, if_pos h4]
      · rw [if_neg h4, if_neg h4]
        have hp : ∃ p, Df.lk t.2 s.name = some p ∧ (s.kind = 1 ∨ s.kind = 5 ∨ s.kind = 6 ∨ s.kind = 8) := by
          rcases hg with ⟨h, _⟩ | ⟨h, _⟩ | ⟨h, _⟩ | ⟨h, _⟩ | ⟨p, hp, h⟩
          · exact absurd (.inl h) h3
          · exact absurd (.inr h) h3
          · exact absurd h h4
          · exact absurd h h2
          · exact ⟨p, hp, by rcases h with ⟨h, _⟩ | ⟨h, _⟩ | ⟨h, _⟩ | ⟨h, _⟩ <;> simp [h]⟩
        obtain ⟨p, hp, hk⟩ := hp
        rw [if_pos hk]
        unfold chgP
        rw [inP_lk hp]
        by_cases h5 : s.kind = 5
        · rw [if_pos h5]
          have : updP s.kind s.n p = (fun q : Pl => (⟨q.nm, q.sz, q.wt, s.n⟩ : Pl)) p := by simp [updP, h5]
          rw [this, ins_upd (f := fun q : Pl => (⟨q.nm, q.sz, q.wt, s.n⟩ : Pl)) hu hp (fun _ => rfl)]
        · rw [if_neg h5]
          by_cases h6 : s.kind = 6
          · rw [if_pos h6]
            have : updP s.kind s.n p = (fun q : Pl => (⟨q.nm, q.sz, s.n, q.fr⟩ : Pl)) p := by simp [updP, h6]
            rw [this, ins_upd (f := fun q : Pl => (⟨q.nm, q.sz, s.n, q.fr⟩ : Pl)) hu hp (fun _ => rfl)]
          · rw [if_neg h6]
            have h18 : s.kind = 1 ∨ s.kind = 8 := by
              rcases hk with h | h | h | h
              · exact .inl h
              · exact absurd h h5
              · exact absurd h h6
              · exact .inr h
            have : updP s.kind s.n p = (fun q : Pl => (⟨q.nm, s.n, q.wt, q.fr⟩ : Pl)) p := by
              rcases h18 with h | h <;> simp [updP, h]
            rw [this, ins_upd (f := fun q : Pl => (⟨q.nm, s.n, q.wt, q.fr⟩ : Pl)) hu hp (fun _ => rfl)]
structure Thin (S T : Sta) : Prop where
  srv : T.srv.Sublist S.srv
  keep : ∀ x ∈ S.srv, x.client ≠ 0 → x ∈ T.srv
  wts : T.wts.Sublist S.wts
  rest : Rest S T
theorem Thin.refl (S : Sta) : Thin S S := ⟨List.Sublist.refl _, fun _ h _ => h, List.Sublist.refl _, Rest.refl _⟩
theorem Thin.trans {S T U : Sta} (h : Thin S T) (k : Thin T U) : Thin S U := ⟨k.srv.trans h.srv, fun x hx h0 => k.keep x (h.keep x hx h0) h0, k.wts.trans h.wts, h.rest.trans k.rest⟩
theorem last_some {α : Type} {p : α → Bool} {l : List α} {s : α} (h : lastP p l = some s) : s ∈ l ∧ p s = true := by
  unfold lastP at h
  have := List.mem_of_getLast? h
  exact List.mem_filter.1 this
theorem last_none {α : Type} {p : α → Bool} {l : List α} (h : lastP p l = none) : ∀ x ∈ l, p x = false := by
  unfold lastP at h
  rw [List.getLast?_eq_none_iff, List.filter_eq_nil_iff] at h
  exact fun x hx => bool_ne (h x hx)
theorem shut_thin {S : Sta} {op : Int} (hi : Inv S op) {s : Srv} (hs : s ∈ S.srv) (h0 : s.client = 0) : Thin S (cShut S s.id) :=
  ⟨List.filter_sublist, fun x hx hx0 => List.mem_filter.2 ⟨hx, by
    simp only [Bool.not_eq_true', decide_eq_false_iff_not]
    exact fun e => hx0 (by rw [id_one hi hx hs e]; exact h0)⟩, List.Sublist.refl _, ⟨rfl, rfl, rfl, rfl, rfl⟩⟩
theorem inv_thin {S T : Sta} {op : Int} (hi : Inv S op) (h : Thin S T) : Inv T op := ⟨hi.ids.sublist h.srv, fun x hx => hi.low x (h.srv.subset hx), hi.op0, hi.cli.sublist h.wts⟩
theorem cnt_shut {S : Sta} {s : Srv} (hs : s ∈ S.srv) {p : Srv → Bool} (hp : p s = true) : cntG p (cShut S s.id).srv + 1 ≤ cntG p S.srv := by
  unfold cntG cShut
  simp only
  rw [List.filter_filter]
  have h1 : (S.srv.filter p).filter (fun x => !decide (x.id = s.id)) = S.srv.filter (fun x => p x && !decide (x.id = s.id)) := by
    rw [List.filter_filter]
    exact List.filter_congr (fun x _ => Bool.and_comm _ _)
  rw [← h1]
  have h2 : ((S.srv.filter p).filter (fun x => !decide (x.id = s.id))).length < (S.srv.filter p).length := by
    rw [List.length_filter_lt_length_iff_exists]
    exact ⟨s, List.mem_filter.2 ⟨hs, hp⟩, by simp⟩
  omega
theorem thinP_end (nm : ByteArray) (n : Int) (op : Int) : ∀ (f : Nat) (S : Sta), Inv S op → (cntG (isPoolV nm) S.srv : Int) - n ≤ f → Thin S (cThinP nm f S) ∧ ((cntG (isPoolV nm) (cThinP nm f S).srv : Int) ≤ n ∨ ∀ x ∈ (cThinP nm f S).srv, isPoolV nm x = true → x.client ≠ 0)
  | 0, S, hi, h => ⟨Thin.refl _, .inl (by show (cntG (isPoolV nm) S.srv : Int) ≤ n; simp at h; omega)⟩
  | f + 1, S, hi, h => by
    rw [cThinP]
    cases hl : lastP (fun s => isPoolV nm s && isCliV 0 s) S.srv with
    | none =>
      refine ⟨Thin.refl _, .inr fun x hx hp h0 => ?_⟩
      have := last_none hl x hx
      simp only [hp, Bool.true_and] at this
      unfold isCliV at this
      rw [h0] at this
      simp at this
    | some s =>
      obtain ⟨hs, hp⟩ := last_some hl
      simp only [Bool.and_eq_true] at hp
      have h0 : s.client = 0 := eq_of_beq hp.2
      have ht := shut_thin hi hs h0
      have hc := cnt_shut hs hp.1
      obtain ⟨k1, k2⟩ := thinP_end nm n op f (cShut S s.id) (inv_thin hi ht) (by omega)
      exact ⟨ht.trans k1, k2⟩
theorem thinA_end (n : Int) (op : Int) : ∀ (f : Nat) (S : Sta), Inv S op → (S.srv.length : Int) - n ≤ f → Thin S (cThinA f S) ∧ (((cThinA f S).srv.length : Int) ≤ n ∨ ∀ x ∈ (cThinA f S).srv, x.client ≠ 0)
  | 0, S, hi, h => ⟨Thin.refl _, .inl (by show (S.srv.length : Int) ≤ n; simp at h; omega)⟩
  | f + 1, S, hi, h => by
    rw [cThinA]
    cases hl : lastP (isCliV 0) S.srv with
    | none =>
      refine ⟨Thin.refl _, .inr fun x hx h0 => ?_⟩
      have := last_none hl x hx
      unfold isCliV at this
      rw [h0] at this
      simp at this
    | some s =>
      obtain ⟨hs, hp⟩ := last_some hl
      have h0 : s.client = 0 := eq_of_beq hp
      have ht := shut_thin hi hs h0
      have hc : (cShut S s.id).srv.length < S.srv.length := by
        unfold cShut
        simp only
        rw [List.length_filter_lt_length_iff_exists]
        exact ⟨s, hs, by simp⟩
      obtain ⟨k1, k2⟩ := thinA_end n op f (cShut S s.id) (inv_thin hi ht) (by omega)
      exact ⟨ht.trans k1, k2⟩
theorem quit_thin (S : Sta) (c : Int) : Thin S (cQuit S c) := ⟨List.Sublist.refl _, fun _ h _ => h, List.filter_sublist, ⟨rfl, rfl, rfl, rfl, rfl⟩⟩
theorem thinL_end (nm : ByteArray) (n : Int) (hn : 0 ≤ n) : ∀ (f : Nat) (S : Sta), (cntG (isPoolW nm) S.wts : Int) - n ≤ f → Thin S (cThinL nm f S) ∧ (cThinL nm f S).srv = S.srv ∧ (cntG (isPoolW nm) (cThinL nm f S).wts : Int) ≤ n
  | 0, S, h => ⟨Thin.refl _, rfl, by show (cntG (isPoolW nm) S.wts : Int) ≤ n; simp at h; omega⟩
  | f + 1, S, h => by
    rw [cThinL]
    have ht := quit_thin S (orW (lastP (isPoolW nm) S.wts)).client
    have hc : (cntG (isPoolW nm) (cQuit S (orW (lastP (isPoolW nm) S.wts)).client).wts : Int) - n ≤ f := by
      cases hl : lastP (isPoolW nm) S.wts with
      | none =>
        have h0 : cntG (isPoolW nm) S.wts = 0 := by
          unfold cntG
          rw [List.filter_eq_nil_iff.2 (fun x hx => by rw [last_none hl x hx]; simp)]
          rfl
        have h1 : cntG (isPoolW nm) (cQuit S (orW (none : Option Wtr)).client).wts ≤ cntG (isPoolW nm) S.wts := cntW_sub List.filter_sublist
        omega
      | some s =>
        obtain ⟨hs, hp⟩ := last_some hl
        have h1 : cntG (isPoolW nm) (cQuit S s.client).wts + 1 ≤ cntG (isPoolW nm) S.wts := by
          unfold cntG cQuit
          simp only
          rw [List.filter_filter]
          have h1 : (S.wts.filter (isPoolW nm)).filter (fun x => !decide (x.client = s.client)) = S.wts.filter (fun x => isPoolW nm x && !decide (x.client = s.client)) := by
            rw [List.filter_filter]
            exact List.filter_congr (fun x _ => Bool.and_comm _ _)
          rw [← h1]
          have h2 : ((S.wts.filter (isPoolW nm)).filter (fun x => !decide (x.client = s.client))).length < (S.wts.filter (isPoolW nm)).length := by
            rw [List.length_filter_lt_length_iff_exists]
            exact ⟨s, List.mem_filter.2 ⟨hs, hp⟩, by simp⟩
          omega
        show (cntG (isPoolW nm) (cQuit S s.client).wts : Int) - n ≤ f
        omega
    obtain ⟨k1, k2, k3⟩ := thinL_end nm n hn f (cQuit S (orW (lastP (isPoolW nm) S.wts)).client) hc
    exact ⟨ht.trans k1, k2, k3⟩
theorem shutF_end (S : Sta) (nm : ByteArray) (far : Int) : Thin S (cShutF S nm far) ∧ ∀ x ∈ (cShutF S nm far).srv, x.client = 0 → isPoolV nm x = true → x.far = far := by
  refine ⟨⟨List.filter_sublist, fun x hx h0 => List.mem_filter.2 ⟨hx, ?_⟩, List.Sublist.refl _, ⟨rfl, rfl, rfl, rfl, rfl⟩⟩, fun x hx h0 hp => ?_⟩
  · unfold keepF
    have : isCliV 0 x = false := bool_ne (fun e => h0 (eq_of_beq e))
    simp [isCliV] at this
    simp [this]
  · have h1 := (List.mem_filter.1 hx).2
    unfold keepF othF at h1
    rw [hp, h0] at h1
    simpa using h1
end Lw
end Go.Proofs.YtohbonfngeblkaaGreat
