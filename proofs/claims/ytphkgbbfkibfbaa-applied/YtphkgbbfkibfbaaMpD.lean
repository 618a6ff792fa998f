
import Derived.Test.YtphkgbbfkibfbaaMpC
namespace Go.Proofs.Ytphkgbbfkibfbaa
open Go.RowKit
namespace Df
open Co Lw

theorem diffL_parts (ba : Int) (ps : List Pl) (bb : Int) (qs : List Pl) : diffL ba ps bb qs = chgL 1 ps qs ++ missL 2 ps qs ++ budL 3 ba bb ++ missL 4 qs ps ++ chgL 5 ps qs ++ chgL 6 ps qs ++ budL 7 ba bb ++ chgL 8 ps qs := by
  unfold diffL
  rw [diffTo_succ 7, diffTo_succ 6, diffTo_succ 5, diffTo_succ 4, diffTo_succ 3, diffTo_succ 2, diffTo_succ 1, diffTo_succ 0]
  simp [diffTo, kindL]
theorem runB3 {ba bb : Int} {ts : List Pl} (hu : Up ts) (hl : ts.length ≤ 6) : RunOk (ba, ts) (budL 3 ba bb) ∧ (budL 3 ba bb).foldl stepT (ba, ts) = (if bb < ba then bb else ba, ts) := by
  unfold budL
  by_cases h : bb < ba
  · rw [if_pos (by simp [leadsB, h]), if_pos h]
    exact ⟨⟨hu, hl, .inl ⟨rfl, rfl, h⟩, trivial⟩, by simp [stepT]⟩
  · rw [if_neg (by simp [leadsB]; omega), if_neg h]
    exact ⟨trivial, rfl⟩
theorem runB7 {ba bb : Int} {ts : List Pl} (hu : Up ts) (hl : ts.length ≤ 6) : RunOk (if bb < ba then bb else ba, ts) (budL 7 ba bb) ∧ (budL 7 ba bb).foldl stepT (if bb < ba then bb else ba, ts) = (bb, ts) := by
  by_cases h : ba < bb
  · have e : budL 7 ba bb = [⟨7, ⟨#[]⟩, bb⟩] := by rw [budL, if_pos (by simp [leadsB, h])]
    rw [e, if_neg (by omega)]
    exact ⟨⟨hu, hl, .inr (.inl ⟨rfl, rfl, h⟩), trivial⟩, by simp [stepT]⟩
  · have e : budL 7 ba bb = [] := by rw [budL, if_neg (by simp [leadsB]; omega)]
    rw [e]
    refine ⟨trivial, ?_⟩
    by_cases h2 : bb < ba
    · rw [if_pos h2]; rfl
    · rw [if_neg h2, show ba = bb by omega]; rfl
theorem seq {t t1 : Int × List Pl} {l1 l2 : List Stp} (h1 : RunOk t l1) (e : l1.foldl stepT t = t1) (h2 : RunOk t1 l2) : RunOk t (l1 ++ l2) := RunOk.append h1 (by rw [e]; exact h2)
theorem seq_f {t t1 t2 : Int × List Pl} {l1 l2 : List Stp} (e : l1.foldl stepT t = t1) (e2 : l2.foldl stepT t1 = t2) : (l1 ++ l2).foldl stepT t = t2 := by rw [List.foldl_append, e, e2]
/-- THE STEPS, ONE AFTER THE OTHER, MAKE OF THE FIRST TABLE THE SECOND -/
theorem run_all {ba bb : Int} {ps qs : List Pl} (ha : Okt ba ps) (hb : Okt bb qs) : RunOk (ba, ps) (diffL ba ps bb qs) ∧ (diffL ba ps bb qs).foldl stepT (ba, ps) = (bb, qs) := by
  rw [diffL_parts]
  have a0 := ha.b0
  have a1 := ha.b1
  have b0 := hb.b0
  have b1 := hb.b1
  obtain ⟨r1, u1, e1, k1⟩ := run1 ha hb ba
  obtain ⟨t1, h1⟩ : ∃ t1, (chgL 1 ps qs).foldl stepT (ba, ps) = (ba, t1) := ⟨_, Prod.ext e1 rfl⟩
  rw [h1] at u1 k1
  obtain ⟨r2, u2, e2, k2⟩ := run2 (qs := qs) ha ba t1 u1 k1
  obtain ⟨t2, h2⟩ : ∃ t2, (missL 2 ps qs).foldl stepT (ba, t1) = (ba, t2) := ⟨_, Prod.ext e2 rfl⟩
  rw [h2] at u2 k2
  have l2 : t2.length ≤ 6 := Nat.le_trans (len_qs hb u2 (fun m x hx hn => by
    have := k2 m
    simp only [hn, s3] at this
    rw [hx] at this
    simp at this)) hb.len
  obtain ⟨r3, h3⟩ := runB3 (ba := ba) (bb := bb) u2 l2
  obtain ⟨b', hb'⟩ : ∃ b', (if bb < ba then bb else ba) = b' := ⟨_, rfl⟩
  have c0 : 1 ≤ b' ∧ b' ≤ 99 := by rw [← hb']; split <;> omega
  rw [hb'] at h3
  obtain ⟨r4, u4, e4, k4⟩ := run4 ha hb b' c0.1 c0.2 t2 u2 k2
  obtain ⟨t4, h4⟩ : ∃ t4, (missL 4 qs ps).foldl stepT (b', t2) = (b', t4) := ⟨_, Prod.ext e4 rfl⟩
  rw [h4] at u4 k4
  obtain ⟨r5, u5, e5, k5⟩ := run5 ha hb b' t4 u4 k4
  obtain ⟨t5, h5⟩ : ∃ t5, (chgL 5 ps qs).foldl stepT (b', t4) = (b', t5) := ⟨_, Prod.ext e5 rfl⟩
  rw [h5] at u5 k5
  obtain ⟨r6, u6, e6, k6⟩ := run6 ha hb b' t5 u5 k5
  obtain ⟨t6, h6⟩ : ∃ t6, (chgL 6 ps qs).foldl stepT (b', t5) = (b', t6) := ⟨_, Prod.ext e6 rfl⟩
  rw [h6] at u6 k6
  have l6 : t6.length ≤ 6 := Nat.le_trans (len_qs hb u6 (fun m x hx hn => by
    have := k6 m
    simp only [hn, s7] at this
    rw [hx] at this
    simp at this)) hb.len
  obtain ⟨r7, h7⟩ := runB7 (ba := ba) (bb := bb) u6 l6
  rw [hb'] at r7 h7
  obtain ⟨r8, u8, e8, k8⟩ := run8 ha hb bb t6 u6 k6
  obtain ⟨t8, h8⟩ : ∃ t8, (chgL 8 ps qs).foldl stepT (bb, t6) = (bb, t8) := ⟨_, Prod.ext e8 rfl⟩
  rw [h8] at u8 k8
  obtain rfl : t8 = qs := up_ext u8 hb.up k8
  have q1 := r1
  have q2 := seq q1 h1 r2
  have f2 := seq_f h1 h2
  have q3 := seq q2 f2 r3
  have f3 := seq_f f2 h3
  have q4 := seq q3 f3 r4
  have f4 := seq_f f3 h4
  have q5 := seq q4 f4 r5
  have f5 := seq_f f4 h5
  have q6 := seq q5 f5 r6
  have f6 := seq_f f5 h6
  have q7 := seq q6 f6 r7
  have f7 := seq_f f6 h7
  exact ⟨seq q7 f7 r8, seq_f f7 h8⟩

/-- their order -/
def ordS (s t : Stp) : Prop := s.kind < t.kind ∨ (s.kind = t.kind ∧ lt s.name t.name = true)
theorem kind_all (k ba : Int) (ps : List Pl) (bb : Int) (qs : List Pl) : ∀ s ∈ kindL k ba ps bb qs, s.kind = k := by
  intro s hs
  unfold kindL at hs
  split at hs
  · obtain ⟨_, _, rfl⟩ := List.mem_map.1 hs; rfl
  · split at hs
    · obtain ⟨_, _, rfl⟩ := List.mem_map.1 hs; rfl
    · split at hs
      · unfold budL at hs
        split at hs
        · simp at hs; subst hs; rfl
        · simp at hs
      · obtain ⟨_, _, rfl⟩ := List.mem_map.1 hs; rfl
theorem ord_map {k : Int} {f : Pl → Stp} (hf : ∀ p, (f p).name = p.nm) (hk : ∀ p, (f p).kind = k) (c : Pl → Bool) {l : List Pl} (h : Up l) : ((l.filter c).map f).Pairwise ordS := by
  rw [List.pairwise_map]
  refine List.Pairwise.imp ?_ (List.Pairwise.filter _ h)
  intro a b hab
  refine .inr ⟨by rw [hk, hk], ?_⟩
  rw [hf, hf]
  exact hab
theorem kind_ord {ba bb : Int} {ps qs : List Pl} (ha : Okt ba ps) (hb : Okt bb qs) (k : Int) : (kindL k ba ps bb qs).Pairwise ordS := by
  unfold kindL
  split
  · exact ord_map (k := k) (fun _ => rfl) (fun _ => rfl) _ ha.up
  · split
    · exact ord_map (k := k) (fun _ => rfl) (fun _ => rfl) _ hb.up
    · split
      · unfold budL
        split <;> simp
      · exact ord_map (k := k) (fun _ => rfl) (fun _ => rfl) _ hb.up
theorem diff_kind {ba bb : Int} {ps qs : List Pl} : ∀ (n : Nat), ∀ s ∈ diffTo n ba ps bb qs, s.kind ≤ (n : Int)
  | 0, s, hs => by simp [diffTo] at hs
  | n + 1, s, hs => by
    rw [diffTo_succ] at hs
    rcases List.mem_append.1 hs with h | h
    · have := diff_kind n s h; omega
    · have := kind_all _ _ _ _ _ s h; omega
theorem diff_ord {ba bb : Int} {ps qs : List Pl} (ha : Okt ba ps) (hb : Okt bb qs) : ∀ (n : Nat), (diffTo n ba ps bb qs).Pairwise ordS
  | 0 => by simp [diffTo]
  | n + 1 => by
    rw [diffTo_succ, List.pairwise_append]
    refine ⟨diff_ord ha hb n, kind_ord ha hb _, fun s hs t ht => .inl ?_⟩
    have h1 := diff_kind n s hs
    have h2 := kind_all _ _ _ _ _ t ht
    omega
/-- from a table to itself there is none -/
theorem diff_self {b : Int} {qs : List Pl} (hb : Okt b qs) : diffL b qs b qs = [] := by
  have hm : ∀ k, missL k qs qs = [] := by
    intro k
    unfold missL
    rw [List.map_eq_nil_iff, List.filter_eq_nil_iff]
    intro p hp
    have : hasP qs p = true := hasP_lk.2 (by rw [lk_of_mem hb.up hp]; simp)
    simp [this]
  have hc : ∀ k, chgL k qs qs = [] := by
    intro k
    unfold chgL
    rw [List.map_eq_nil_iff, List.filter_eq_nil_iff]
    intro p hp
    unfold chgP
    rw [inP_some (lk_of_mem hb.up hp)]
    unfold leadsB
    split
    · simp
    · split <;> simp
  have hbu : ∀ k, budL k b b = [] := by
    intro k
    unfold budL
    rw [if_neg]
    unfold leadsB
    split
    · simp
    · split <;> simp
  rw [diffL_parts, hc, hm, hbu, hm, hc, hc, hbu, hc]
  rfl
end Df
end Go.Proofs.Ytphkgbbfkibfbaa
