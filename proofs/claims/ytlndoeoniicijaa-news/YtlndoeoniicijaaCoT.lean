
import Derived.Test.YtlndoeoniicijaaCoS
namespace Go.Proofs.Ytlndoeoniicijaa
open Go.RowKit
namespace Co

def onceK (ks : List Nat) : Prop := ks.Pairwise fun a b => ¬ b = a
def twK (ks : List Nat) : Bool := !decide (ks.Pairwise fun a b => ¬ b = a)
theorem onceK_take {ks : List Nat} {k a : Nat} (h : ks[k]? = some a) (h1 : onceK (ks.take k)) (h2 : ∀ j q, j < k → ks[j]? = some q → ¬ a = q) : onceK (ks.take (k + 1)) := by
  obtain ⟨hk, e⟩ := List.getElem?_eq_some_iff.1 h
  unfold onceK at *
  rw [List.take_succ_eq_append_getElem hk, List.pairwise_append]
  refine ⟨h1, by simp, ?_⟩
  intro x hx y hy
  simp at hy
  subst hy
  obtain ⟨j, hj⟩ := List.getElem?_of_mem hx
  rw [List.getElem?_take] at hj
  split at hj
  · rw [e]; exact h2 j x (by assumption) hj
  · cases hj
theorem twK_bad {ks : List Nat} {j k a b : Nat} (hjk : j < k) (hq : ks[j]? = some a) (hp : ks[k]? = some b) (he : b = a) : twK ks = true := by
  unfold twK
  simp only [Bool.not_eq_true', decide_eq_false_iff_not]
  intro h
  obtain ⟨h1, e1⟩ := List.getElem?_eq_some_iff.1 hq
  obtain ⟨h2, e2⟩ := List.getElem?_eq_some_iff.1 hp
  have := List.pairwise_iff_getElem.1 h j k h1 h2 hjk
  rw [e1, e2] at this
  exact this he
theorem twK_good {ks : List Nat} (h : onceK ks) : twK ks = false := by
  unfold twK
  simp only [Bool.not_eq_false', decide_eq_true_iff]
  exact h

theorem int_eq (a b : Nat) : ((a : Int) == (b : Int)) = decide (a = b) := by rw [Bool.eq_iff_iff]; simp; omega

set_option maxRecDepth 20000 in
set_option maxHeartbeats 2000000 in
theorem twice_any (wd nm fr : ByteArray) (ko : Option Addr) (n kc : Nat) (vo : Option Addr) (nv vc : Nat) (pl : Int) (ks : List Nat) (w : World) (hr : RowAt w (.slice ko n kc) n (ints ks)) (hn : ks.length = n) (hn1 : n ≤ 1001) :
    Calls Try.prog 58 #[rlA wd nm fr ko n kc vo nv vc pl] w fun e w' => e = .returned (.bool (twK ks)) ∧ Below w.heap.size w w' := by
  have HN : Hid (ks.length = n) := hn
  have HR : Hid (RowAt (w.alloc (bRL wd nm fr ko n kc vo nv vc pl)) (.slice ko n kc) n (ints ks)) := hr.nx (nx_alloc _ _)
  clear hr hn
  go_enter Try.func58, Try.ntmps58
  go_wp2_with fail
  go_loopw [3] (fun i wr => ∃ (k : Nat), k ≤ n ∧ i = .int .i64 k ∧ Hid (onceK (ks.take k)) ∧ Below (w.alloc (bRL wd nm fr ko n kc vo nv vc pl)).heap.size (w.alloc (bRL wd nm fr ko n kc vo nv vc pl)) wr) (fun i _ => n - (intOf i).toNat)
  case atStart => exact ⟨0, Nat.zero_le _, rfl, List.Pairwise.nil, Below.refl _ _⟩
  case round =>
    obtain ⟨k, hk, rfl, HS, hbel⟩ := hrel
    have hcell : wr.cell? ⟨w.heap.size, 3, none⟩ = some (.slice ko n kc) := (hbel.cell (p := ⟨w.heap.size, 3, none⟩) (by simp)).trans (by simp)
    by_cases hlt : k < n
    · obtain ⟨a, hp⟩ : ∃ p, ks[k]? = some p := ⟨_, List.getElem?_eq_getElem (by rw [HN.out]; exact hlt)⟩
      have HPk : Hid (ks[k]? = some a) := hp
      have HBL := hideIt hbel
      clear hp
      go_wp2_with fail
      go_loopw [4] (fun i wq => ∃ (j : Nat), j ≤ k ∧ i = .int .i64 j ∧ Hid (∀ j' q, j' < j → ks[j']? = some q → ¬ a = q) ∧ Below (w.alloc (bRL wd nm fr ko n kc vo nv vc pl)).heap.size (w.alloc (bRL wd nm fr ko n kc vo nv vc pl)) wq) (fun i _ => k - (intOf i).toNat)
      case atStart => exact ⟨0, Nat.zero_le _, rfl, (fun j' q h => by omega), HBL.out⟩
      case round =>
        obtain ⟨j, hj, rfl, HJ, hbel2⟩ := hrel
        have hcell2 : wr.cell? ⟨w.heap.size, 3, none⟩ = some (.slice ko n kc) := (hbel2.cell (p := ⟨w.heap.size, 3, none⟩) (by simp)).trans (by simp)
        have HB : Hid (Below w.heap.size w wr) := nx_trans (nx_alloc _ _) hbel2
        by_cases hjk : j < k
        · obtain ⟨b, hq⟩ : ∃ p, ks[j]? = some p := ⟨_, List.getElem?_eq_getElem (by rw [HN.out]; omega)⟩
          obtain ⟨bl, off, hso, hbl, c0⟩ := ints_row (HR.out.nx hbel2) HPk.out
          obtain ⟨bl', off', e1, _, d0⟩ := ints_row (HR.out.nx hbel2) hq
          rw [hso] at e1
          obtain ⟨rfl, rfl⟩ : bl = bl' ∧ off = off' := by simpa using e1
          rw [hso] at hcell2
          have HQ : Hid (ks[j]? = some b) := hq
          have HSO := hideIt hso
          have hi1 : (k : Int) < (n : Int) := by omega
          have hi2 : (j : Int) < (n : Int) := by omega
          clear hq e1 hso hcell
          by_cases hw : a = b
          · have hwb : ((a : Int) == (b : Int)) = true := by simp [hw]
            have HT : Hid (twK ks = true) := twK_bad hjk HQ.out HPk.out hw
            clear hw
            go_wp2_with fail
            go_quiet (fail)
            go_wp2_with fail
            go_ret
            exact ⟨ret_bool HT.out.symm, below_drewN HB.out _⟩
          · have hwb : ((a : Int) == (b : Int)) = false := by simp; omega
            have HT : Hid (¬ a = b) := hw
            clear hw
            go_wp2_with fail
            go_quiet (fail)
            go_wp2_with fail
            go_roundw
            case rel => exact ⟨j + 1, by omega, by go_num, (fun j' q h h2 => by
              by_cases hjj : j' < j
              · exact HJ.out j' q hjj h2
              · obtain rfl : j' = j := by omega
                rw [HQ.out] at h2
                cases h2
                exact HT.out), below_drewN hbel2 _⟩
            case measure => simp [intOf]; omega
        · obtain rfl : j = k := by omega
          clear hcell
          go_wp2_with fail
          go_roundw
          case rel => exact ⟨j + 1, by omega, by go_num, onceK_take HPk.out HS.out HJ.out, hbel2⟩
          case measure => simp [intOf]; omega
    · go_wp2_with fail
      go_ret
      exact ⟨ret_bool (by rw [twK_good]; rw [← List.take_of_length_le (l := ks) (i := k) (by rw [HN.out]; omega)]; exact HS.out), nx_trans (nx_alloc _ _) hbel⟩

def allM (ss : List (Nat × Nat)) : Bool := ss.all fun p => decide (p.2 ≤ mostN p.1)
theorem allM_cons (a b : Nat) (r : List (Nat × Nat)) : allM ((a, b) :: r) = (decide (b ≤ mostN a) && allM r) := by simp [allM]

set_option maxRecDepth 20000 in
set_option maxHeartbeats 1000000 in
theorem ranged_n (wd nm fr : ByteArray) (ko : Option Addr) (n kc : Nat) (vo : Option Addr) (vc : Nat) (pl : Int) (ss : List (Nat × Nat)) (w : World) (hb : (wd.toList == [98, 117, 100, 103, 101, 116]) = false)
    (hr : RowAt w (.slice ko n kc) n (ints (ss.map (·.1)))) (hr2 : RowAt w (.slice vo n vc) n (ints (ss.map (·.2)))) (hn : ss.length = n) (hn1 : n ≤ 1001) :
    Calls Try.prog 56 #[rlA wd nm fr ko n kc vo n vc pl] w fun e w' => e = .returned (.bool (allM ss)) ∧ Below w.heap.size w w' := by
  have HN : Hid (ss.length = n) := hn
  have HR : Hid (RowAt (w.alloc (bRL wd nm fr ko n kc vo n vc pl)) (.slice ko n kc) n (ints (ss.map (·.1))) ∧ RowAt (w.alloc (bRL wd nm fr ko n kc vo n vc pl)) (.slice vo n vc) n (ints (ss.map (·.2)))) := ⟨hr.nx (nx_alloc _ _), hr2.nx (nx_alloc _ _)⟩
  clear hr hr2 hn
  go_enter Try.func56, Try.ntmps56
  go_wp2_with fail
  go_loopw [3] (fun i wr => ∃ (k : Nat), k ≤ n ∧ i = .int .i64 k ∧ Hid (allM (ss.drop k) = allM ss) ∧ Below (w.alloc (bRL wd nm fr ko n kc vo n vc pl)).heap.size (w.alloc (bRL wd nm fr ko n kc vo n vc pl)) wr) (fun i _ => n - (intOf i).toNat)
  case atStart => exact ⟨0, Nat.zero_le _, rfl, rfl, Below.refl _ _⟩
  case round =>
    obtain ⟨k, hk, rfl, HS, hbel⟩ := hrel
    have hc3 : wr.cell? ⟨w.heap.size, 3, none⟩ = some (.slice ko n kc) := (hbel.cell (p := ⟨w.heap.size, 3, none⟩) (by simp)).trans (by simp)
    have hc4 : wr.cell? ⟨w.heap.size, 4, none⟩ = some (.slice vo n vc) := (hbel.cell (p := ⟨w.heap.size, 4, none⟩) (by simp)).trans (by simp)
    have HB : Hid (Below w.heap.size w wr) := nx_trans (nx_alloc _ _) hbel
    by_cases hlt : k < n
    · obtain ⟨⟨a, b⟩, hp⟩ : ∃ p, ss[k]? = some p := ⟨_, List.getElem?_eq_getElem (by rw [HN.out]; exact hlt)⟩
      obtain ⟨bl, off, rfl, hbl, c0⟩ := ints_row (HR.out.1.nx hbel) (show (ss.map (·.1))[k]? = some a by simp [hp])
      obtain ⟨bl2, off2, rfl, hbl2, d0⟩ := ints_row (HR.out.2.nx hbel) (show (ss.map (·.2))[k]? = some b by simp [hp])
      have HD : Hid (ss.drop k = (a, b) :: ss.drop (k + 1)) := drop_at hp
      have hlti : (k : Int) < (n : Int) := by omega
      clear hp
      by_cases hf : b ≤ mostN a
      · have HF := hideIt hf
        obtain ⟨q, hq⟩ : ∃ q, mostN a = q := ⟨_, rfl⟩
        have HM := hideIt (most_any a)
        rw [hq] at hf HM
        have hfi : ¬ (q : Int) < (b : Int) := by omega
        clear hq hf
        go_wp2_with fail
        go_quiet ((go_at_call 64; exact Calls.quiet_of_same (HM.out _)))
        go_wp2_with fail
        go_roundw
        case rel => exact ⟨k + 1, by omega, by go_num, (by show _ = _; rw [← HS.out, HD.out, allM_cons, decide_eq_true HF.out]; simp), below_drewN hbel _⟩
        case measure => simp [intOf]; omega
      · have HF := hideIt hf
        obtain ⟨q, hq⟩ : ∃ q, mostN a = q := ⟨_, rfl⟩
        have HM := hideIt (most_any a)
        rw [hq] at hf HM
        have hfi : (q : Int) < (b : Int) := by omega
        clear hq hf
        go_wp2_with fail
        go_quiet ((go_at_call 64; exact Calls.quiet_of_same (HM.out _)))
        go_wp2_with fail
        go_ret
        exact ⟨ret_bool (by rw [← HS.out, HD.out, allM_cons, decide_eq_false HF.out]; rfl), below_drewN HB.out _⟩
    · go_wp2_with fail
      go_ret
      exact ⟨ret_bool (by rw [← HS.out, List.drop_of_length_le (by rw [HN.out]; omega)]; rfl), HB.out⟩

set_option maxRecDepth 20000 in
set_option maxHeartbeats 1000000 in
theorem ranged_b (nm fr : ByteArray) (ko : Option Addr) (nk kc : Nat) (vo : Option Addr) (vc : Nat) (pl : Int) (x : Nat) (w : World) (hr : RowAt w (.slice vo 1 vc) 1 (ints [x])) :
    Calls Try.prog 56 #[rlA sBudget nm fr ko nk kc vo 1 vc pl] w fun e w' => e = .returned (.bool (inB 1 99 x)) ∧ Below w.heap.size w w' := by
  obtain ⟨bl, off, rfl, hbl, c0⟩ := ints_row (hr.nx (nx_alloc w (bRL sBudget nm fr ko nk kc vo 1 vc pl))) (show [x][0]? = some x from rfl)
  simp only [Nat.add_zero] at c0
  clear hr
  by_cases h1 : (1 : Int) ≤ (x : Int)
  · go_enter Try.func56, Try.ntmps56
    go_wp2_with fail
    go_ret
    exact ⟨ret_bool (by simp only [inB, decide_eq_true h1, Bool.true_and]), nx_alloc _ _⟩
  · go_enter Try.func56, Try.ntmps56
    go_wp2_with fail
    go_ret
    exact ⟨ret_bool (inB_lo (by omega)).symm, nx_alloc _ _⟩
end Co
end Go.Proofs.Ytlndoeoniicijaa
