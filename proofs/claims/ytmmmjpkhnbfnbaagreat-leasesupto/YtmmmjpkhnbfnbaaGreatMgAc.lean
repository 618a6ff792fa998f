import Derived.Test.YtmmmjpkhnbfnbaaGreatMgAb
import Derived.Test.YtmmmjpkhnbfnbaaGreatMgN
namespace Go.Proofs.YtmmmjpkhnbfnbaaGreat
open Go.RowKit
namespace Lw
open Co

/-- a state with other servers and another line -/
def stW (S : Sta) (ss : List Srv) (ws : List Wtr) : Sta := { S with srv := ss, wts := ws }
/-- the reference's answers on lists, and on a state -/
theorem lent_link (S : Sta) (nx : Int) (i : Nat) (c : Wtr) :
    rLent S nx i c = (lentR S.bud S.pools S.srv S.wts nx i c).map (fun y => (stW S y.1 y.2.1, y.2.2)) := by
  unfold rLent lentR
  split
  · rename_i h; rw [h]; rfl
  · rename_i x h
    rw [h]
    simp only
    split
    · rename_i k h2; rw [h2]; rfl
    · rename_i h2
      rw [h2]
      simp only
      split
      · rfl
      · unfold rRoom
        by_cases h3 : (S.srv.length : Int) < S.bud
        · rw [if_pos h3, if_pos h3]; rfl
        · rw [if_neg h3, if_neg h3]
          cases h4 : S.srv.findIdx? (isIdle ⟨#[]⟩ true) with
          | none => rfl
          | some k => rfl
theorem first_link (S : Sta) (nx : Int) : ∀ (l : List Wtr) (i : Nat),
    rFirst S nx i l = (firstR S.bud S.pools S.srv S.wts nx i l).map (fun y => (stW S y.1 y.2.1, y.2.2))
  | [], i => rfl
  | c :: r, i => by
    unfold rFirst firstR
    rw [lent_link S nx i c]
    cases h : lentR S.bud S.pools S.srv S.wts nx i c with
    | none => exact first_link S nx r (i + 1)
    | some y => rfl
theorem served_link : ∀ (f : Nat) (S : Sta) (nx : Int),
    rServed f S nx = (stW S (servedR S.bud S.pools f S.srv S.wts nx).1 (servedR S.bud S.pools f S.srv S.wts nx).2.1, (servedR S.bud S.pools f S.srv S.wts nx).2.2)
  | 0, S, nx => rfl
  | f + 1, S, nx => by
    unfold rServed servedR
    rw [first_link S nx S.wts 0]
    cases h : firstR S.bud S.pools S.srv S.wts nx 0 S.wts with
    | none => rfl
    | some y => exact served_link f (stW S y.1 y.2.1) y.2.2
theorem sur_link (S : Sta) (s : Srv) (c : Int) : surR S.bud S.pools S.srv { s with client := c } = isSur S s := by
  unfold surR isSur
  simp only
  cases S.pools.find? (isNameP s.pool) with
  | none => rfl
  | some x =>
    simp only
    congr 2
theorem done_link (S : Sta) (k : Nat) (s : Srv) (hk : S.srv[k]? = some s) :
    (if isSur (rSet S k 0) s = true then rClosed (rSet S k 0) k else rSet S k 0) = stW S (doneS S.bud S.pools S.srv k) S.wts := by
  have h1 := mod_get S.srv k 0 s hk
  have h2 := sur_link (rSet S k 0) s 0
  unfold doneS
  rw [h1]
  simp only
  rw [show surR S.bud S.pools (S.srv.modify k (fun y => { y with client := 0 })) { s with client := 0 } = isSur (rSet S k 0) s from h2]
  split <;> rfl
theorem okCli_link (c : Int) : okCli c = decide (1 ≤ c ∧ c ≤ 99) := by
  unfold okCli
  by_cases h1 : 1 ≤ c <;> by_cases h2 : c ≤ 99 <;> simp [h1, h2] <;> omega

/-- what the reference answers to Leave, Crash and Done, read off the plain state -/
theorem leave_link {w w' : World} {inp : Value} {S : Sta} {nx hb : Int} {hs : List Pl} {c : Int} {e : Ending} (h : LeaveW w w' inp S.bud S.pools S.srv S.wts S.plan S.begun S.back nx hb hs c e) :
    ((rLeave S nx c).err ≠ 0 ∧ (rLeave S nx c).S = S ∧ (rLeave S nx c).op = nx ∧ e = .returned (.tuple #[inp, .int .i64 (rLeave S nx c).err]) ∧ Below w.heap.size w w')
    ∨ ((rLeave S nx c).err = 0 ∧ ∃ v, e = .returned (.tuple #[v, .int .i64 0]) ∧ GaveW w w' S.bud S.pools (rLeave S nx c).S.srv (rLeave S nx c).S.wts S.plan S.begun S.back (rLeave S nx c).op hb hs (.returned v)) := by
  unfold LeaveW at h
  unfold rLeave
  rw [okCli_link]
  by_cases hc : 1 ≤ c ∧ c ≤ 99
  · rw [if_pos hc] at h
    rw [if_neg (by simp [hc])]
    cases hk : S.wts.findIdx? (isCliW c) with
    | none => rw [hk] at h; exact .inl ⟨(by decide : (14 : Nat) ≠ 0), rfl, rfl, h.1, h.2⟩
    | some l => rw [hk] at h; exact .inr ⟨rfl, h⟩
  · rw [if_neg hc] at h
    rw [if_pos (decide_eq_false hc)]
    exact .inl ⟨(by decide : (10 : Nat) ≠ 0), rfl, rfl, h.1, h.2⟩
theorem rDone_some {S : Sta} {nx c : Int} {k : Nat} {s : Srv} (hc : 1 ≤ c ∧ c ≤ 99) (hk : S.srv.findIdx? (isCliV c) = some k) (hs : S.srv[k]? = some s) :
    rDone S nx c = ⟨(rServed S.wts.length (stW S (doneS S.bud S.pools S.srv k) S.wts) nx).1, (rServed S.wts.length (stW S (doneS S.bud S.pools S.srv k) S.wts) nx).2, 0, 0⟩ := by
  unfold rDone
  rw [okCli_link, if_neg (by simp [hc]), hk]
  simp only [hs, done_link S k s hs]
theorem doneW_link {w w' : World} {inp : Value} {S : Sta} {nx hb : Int} {hs : List Pl} {c : Int} {e : Ending} (h : DoneW w w' inp S.bud S.pools S.srv S.wts S.plan S.begun S.back nx hb hs c e) :
    ((rDone S nx c).err ≠ 0 ∧ (rDone S nx c).S = S ∧ (rDone S nx c).op = nx ∧ e = .returned (.tuple #[inp, .int .i64 (rDone S nx c).err]) ∧ Below w.heap.size w w')
    ∨ ((rDone S nx c).err = 0 ∧ ∃ v, e = .returned (.tuple #[v, .int .i64 0]) ∧ GaveO w.heap.size w w' S.bud S.pools (rDone S nx c).S.srv (rDone S nx c).S.wts S.plan S.begun S.back (rDone S nx c).op hb hs (.returned v)) := by
  unfold DoneW at h
  by_cases hc : 1 ≤ c ∧ c ≤ 99
  · rw [if_pos hc] at h
    cases hk : S.srv.findIdx? (isCliV c) with
    | none =>
      rw [hk] at h
      unfold rDone
      rw [okCli_link, if_neg (by simp [hc]), hk]
      exact .inl ⟨(by decide : (14 : Nat) ≠ 0), rfl, rfl, h.1, h.2⟩
    | some k =>
      rw [hk] at h
      obtain ⟨s, hs1, _⟩ := fidx_at hk
      rw [rDone_some hc hk hs1, served_link]
      exact .inr ⟨rfl, h⟩
  · rw [if_neg hc] at h
    unfold rDone
    rw [okCli_link, if_pos (decide_eq_false hc)]
    exact .inl ⟨(by decide : (10 : Nat) ≠ 0), rfl, rfl, h.1, h.2⟩
theorem crash_link {w w' : World} {inp : Value} {S : Sta} {nx hb : Int} {hs : List Pl} {id : Int} {e : Ending} (h : CrashW w w' inp S.bud S.pools S.srv S.wts S.plan S.begun S.back nx hb hs id e) :
    ((rCrash S nx id).err ≠ 0 ∧ (rCrash S nx id).S = S ∧ (rCrash S nx id).op = nx ∧ e = .returned (.tuple #[inp, .int .i64 (rCrash S nx id).err]) ∧ Below w.heap.size w w')
    ∨ ((rCrash S nx id).err = 0 ∧ ∃ v, e = .returned (.tuple #[v, .int .i64 0]) ∧ GaveO w.heap.size w w' S.bud S.pools (rCrash S nx id).S.srv (rCrash S nx id).S.wts S.plan S.begun S.back (rCrash S nx id).op hb hs (.returned v)) := by
  unfold CrashW at h
  unfold rCrash
  have hf : S.srv.findIdx? (fun x => x.id == id) = S.srv.findIdx? (isIdR id) := rfl
  rw [hf]
  cases hk : S.srv.findIdx? (isIdR id) with
  | none => rw [hk] at h; exact .inl ⟨(by decide : (15 : Nat) ≠ 0), rfl, rfl, h.1, h.2⟩
  | some k =>
    rw [hk] at h
    have e := served_link S.wts.length (rClosed S k) nx
    simp only [e]
    exact .inr ⟨trivial, h⟩
end Lw
end Go.Proofs.YtmmmjpkhnbfnbaaGreat
