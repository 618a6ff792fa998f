
import Derived.Test.YthkilnhdhacpaaaDfB
namespace Go.Proofs.Ythkilnhdhacpaaa
open Go.RowKit
namespace Df
open Co Lw

set_option maxRecDepth 20000 in
set_option maxHeartbeats 4000000 in
theorem cChanges (kd : Int) (ao : Option Addr) (n ac : Nat) (ps : List Pl) (bo : Option Addr) (m bc : Nat) (qs : List Pl) (w : World) (hr : RowAt w (.slice ao n ac) n (flatP ps)) (hn : ps.length = n) (hn2 : n ≤ maxLen) (hr2 : RowAt w (.slice bo m bc) m (flatP qs)) (hm : qs.length = m) (hq : m ≤ 1099511627776) :
    Calls Try.prog 29 #[.int .i64 kd, .slice ao n ac, .slice bo m bc] w fun e w' => ∃ vo vc, e = .returned (.slice vo (chgL kd ps qs).length vc) ∧ w'.ownsRow w.heap.size 44 3 (.slice vo (chgL kd ps qs).length vc) (chgL kd ps qs).length (flatT (chgL kd ps qs)) ∧ Below w.heap.size w w' := by
  have HR : Hid (RowAt w (.slice bo m bc) m (flatP qs) ∧ qs.length = m) := ⟨hr2, hm⟩
  have HH := hideIt (fun u (hb : Below w.heap.size w u) name => cPoolIn ao n ac name ps u (hr.nx hb) hn hn2)
  clear hr hn hr2 hm
  go_enter Try.func29, Try.ntmps29
  go_wp2_with fail
  go_loopw [7, 8, 9, 10, 11] (fun l i x9 x10 x11 wr => ∃ (k j : Nat) (vo : Option Addr) (vc : Nat), k ≤ m ∧ j ≤ k ∧ i = .int .i64 k ∧ l = .slice vo j vc ∧ Hid ((chgL kd ps (qs.take k)).length = j ∧ wr.ownsRow w.heap.size 44 3 (.slice vo j vc) j (flatT (chgL kd ps (qs.take k))) ∧ Below w.heap.size w wr)) (fun _ i _ _ _ _ => m - (intOf i).toNat)
  case atStart => exact ⟨0, 0, some ⟨w.heap.size, 0, none⟩, 0, Nat.zero_le _, Nat.le_refl _, rfl, rfl, by simp [chgL], made0 w _ 3 _ rfl _ (Nat.le_refl _), nx_alloc _ _⟩
  case round =>
    obtain ⟨k, j, vo, vc, hk, hj, rfl, rfl, HS⟩ := hrel
    by_cases hlt : k < m
    · obtain ⟨⟨x0, x1, x2, x3⟩, hp⟩ : ∃ p, qs[k]? = some p := ⟨_, List.getElem?_eq_getElem (by rw [HR.out.2]; exact hlt)⟩
      have HRW := hideIt (fun (u : World) (hb : Below wr.heap.size wr u) => pool_at ((HR.out.1.nx HS.out.2.2).nx hb) hp)
      obtain ⟨bl, off, hao, hbl, c0, c1, c2, c3⟩ := HRW.out wr (Below.refl _ _)
      subst hao
      simp only at c0 c1 c2 c3
      have hlti : (k : Int) < (m : Int) := by omega
      obtain ⟨⟨y0, y1, y2, y3⟩, hy⟩ : ∃ y, inP ps x0 = y := ⟨_, rfl⟩
      have HNX : Hid (chgL kd ps (qs.take (k + 1)) = chgL kd ps (qs.take k) ++ if leadsB kd (numP kd ⟨y0, y1, y2, y3⟩) (numP kd ⟨x0, x1, x2, x3⟩) = true then [stepP kd x0 (numP kd ⟨x0, x1, x2, x3⟩)] else []) := by
        obtain ⟨hk', e⟩ := List.getElem?_eq_some_iff.1 hp
        show _ = _
        unfold chgL
        rw [List.take_succ_eq_append_getElem hk', List.filter_append, List.map_append, e]
        congr 1
        cases hkk : leadsB kd (numP kd ⟨y0, y1, y2, y3⟩) (numP kd ⟨x0, x1, x2, x3⟩) <;> simp [chgP, hy, hkk]
      clear hp
      go_wp2_with fail
      refine (HH.out _ HS.out.2.2 _).mono ?_; rintro e w1 ⟨rfl, hb1⟩
      rw [hy]
      obtain ⟨nf, hnf⟩ : ∃ nf, numP kd ⟨y0, y1, y2, y3⟩ = nf := ⟨_, rfl⟩
      obtain ⟨nt, hnt⟩ : ∃ nt, numP kd ⟨x0, x1, x2, x3⟩ = nt := ⟨_, rfl⟩
      rw [hnf, hnt] at HNX
      have HNF := hideIt hnf
      have HNT := hideIt hnt
      have HB1 := hideIt hb1
      clear hy hnf hnt hb1
      go_wp2_with fail
      refine (cNum kd y0 y1 y2 y3 _).mono ?_; rintro e w3 ⟨rfl, hb3⟩
      rw [HNF.out]
      have HB3 := hideIt (nx_trans HB1.out (nx_trans (nx_alloc _ _) hb3))
      obtain ⟨bl', off', e', hbl', d0, d1, d2, d3⟩ := HRW.out w3 HB3.out
      obtain ⟨rfl, rfl⟩ : bl = bl' ∧ off = off' := by simpa using e'
      clear hb3 e' hbl'
      go_wp2_with fail
      refine (cNum kd x0 x1 x2 x3 _).mono ?_; rintro e w4 ⟨rfl, hb4⟩
      rw [HNT.out]
      have HB4 := hideIt (nx_trans HB3.out hb4)
      obtain ⟨bl', off', e', hbl', f0, f1, f2, f3⟩ := HRW.out w4 HB4.out
      obtain ⟨rfl, rfl⟩ : bl = bl' ∧ off = off' := by simpa using e'
      clear hb4 e' hbl'
      go_wp2_with fail
      refine (cLeads kd nf nt _).mono ?_; rintro e w5 ⟨rfl, h5⟩; obtain rfl := h5.symm
      have HSW : Hid (w4.ownsRow w.heap.size 44 3 (.slice vo j vc) j (flatT (chgL kd ps (qs.take k))) ∧ Below w.heap.size w w4) := ⟨own_below HS.out.2.1 HB4.out, nx_trans HS.out.2.2 HB4.out⟩
      cases hx : leadsB kd nf nt with
      | false =>
        have HN : Hid (chgL kd ps (qs.take (k + 1)) = chgL kd ps (qs.take k)) := by
          show _ = _
          rw [HNX.out, hx]; simp
        clear hx
        go_wp2_with fail
        go_roundw
        case rel => exact ⟨k + 1, j, vo, vc, by omega, by omega, by go_num, rfl, by rw [HN.out]; exact ⟨HS.out.1, HSW.out⟩⟩
        case measure => simp [intOf]; omega
      | true =>
        have HN : Hid (chgL kd ps (qs.take (k + 1)) = chgL kd ps (qs.take k) ++ [stepP kd x0 nt]) := by
          show _ = _
          rw [HNX.out, hx]; simp
        clear hx
        go_wp2_with (at_builtin; refine appendG 44 32 3 32 _ info_S Try.underlying32 rfl (by decide) (by decide) rfl (.tmp 39) (.tmp 48) rfl w.heap.size _ j (flatT (chgL kd ps (qs.take k))) rfl (HSW.out.1.alloc _) (some ⟨w4.heap.size, 0, none⟩) 1 1 [.int .i64 kd, .string x0, .int .i64 nt] rfl rfl (row_new w4 [.int .i64 kd, .string x0, .int .i64 nt] _ 1 rfl) (by intro u hu; simp at hu; rcases hu with rfl | rfl | rfl <;> rfl) (fun h => by cases h) (by omega) (by simp; have := HSW.out.2.size; omega) ?next)
        case next =>
          intro v' w6 hown6 hb6
          obtain ⟨vo6, vc6, rfl, _⟩ := own_row hown6
          have K6 : Hid ((chgL kd ps (qs.take (k + 1))).length = j + 1 ∧ w6.ownsRow w.heap.size 44 3 (.slice vo6 (j + 1) vc6) (j + 1) (flatT (chgL kd ps (qs.take (k + 1)))) ∧ Below w.heap.size w w6) := by
            refine ⟨by rw [HN.out]; simp [HS.out.1], ?_, (HSW.out.2.alloc HSW.out.2.size _).trans hb6⟩
            rw [HN.out]
            unfold flatT
            rw [List.flatMap_append]
            exact hown6
          clear hown6 hb6
          go_wp2_with fail
          go_roundw
          case rel => exact ⟨k + 1, j + 1, vo6, vc6, by omega, by omega, by go_num, rfl, K6.out⟩
          case measure => simp [intOf]; omega
    · have HE : Hid ((chgL kd ps qs).length = j ∧ wr.ownsRow w.heap.size 44 3 (.slice vo j vc) j (flatT (chgL kd ps qs)) ∧ Below w.heap.size w wr) := by
        have ht : qs.take k = qs := List.take_of_length_le (by rw [HR.out.2]; omega)
        have := HS.out
        rw [ht] at this
        exact this
      go_wp2_with fail
      go_ret
      exact ⟨vo, vc, by rw [HE.out.1]; rfl, by rw [HE.out.1]; exact HE.out.2.1, HE.out.2.2⟩

/-- the steps of one kind -/
def GaveS (w w' : World) (l : List Stp) (e : Ending) : Prop := ∃ vo vc, e = .returned (.slice vo l.length vc) ∧ RowAt w' (.slice vo l.length vc) l.length (flatT l) ∧ (vo = none → vc = 0) ∧ Below w.heap.size w w'
theorem GaveS.of_own {w w' : World} {l : List Stp} {e : Ending} {B : Nat} (h : ∃ vo vc, e = .returned (.slice vo l.length vc) ∧ w'.ownsRow B 44 3 (.slice vo l.length vc) l.length (flatT l) ∧ Below w.heap.size w w') : GaveS w w' l e := by
  obtain ⟨vo, vc, h1, h2, h3⟩ := h
  exact ⟨vo, vc, h1, own_row h2, own_nilc h2, h3⟩

set_option maxRecDepth 20000 in
set_option maxHeartbeats 4000000 in
theorem cStepsOf (kd ba : Int) (ao : Option Addr) (n ac : Nat) (ps : List Pl) (bb : Int) (bo : Option Addr) (m bc : Nat) (qs : List Pl) (w : World) (hr : RowAt w (.slice ao n ac) n (flatP ps)) (hn : ps.length = n) (hn2 : n ≤ 1099511627776) (hr2 : RowAt w (.slice bo m bc) m (flatP qs)) (hm : qs.length = m) (hm2 : m ≤ 1099511627776) :
    Calls Try.prog 24 #[.int .i64 kd, .agg #[.int .i64 ba, .slice ao n ac], .agg #[.int .i64 bb, .slice bo m bc]] w fun e w' => GaveS w w' (kindL kd ba ps bb qs) e := by
  obtain ⟨W, hW⟩ : ∃ W, W = (w.alloc (bTab ba (.slice ao n ac))).alloc (bTab bb (.slice bo m bc)) := ⟨_, rfl⟩
  have hbW : Below w.heap.size w W := by rw [hW]; exact nx_trans (nx_alloc _ _) (nx_alloc _ _)
  have hml : ∀ x : Nat, x ≤ 1099511627776 → x ≤ maxLen := fun x hx => by unfold maxLen; omega
  have HM1 := hideIt (fun k => cMissing k ao n ac ps bo m bc qs W (hr.nx hbW) hn hn2 (hr2.nx hbW) hm (hml _ hm2))
  have HM2 := hideIt (fun k => cMissing k bo m bc qs ao n ac ps W (hr2.nx hbW) hm hm2 (hr.nx hbW) hn (hml _ hn2))
  have HC := hideIt (fun k => cChanges k ao n ac ps bo m bc qs W (hr.nx hbW) hn (hml _ hn2) (hr2.nx hbW) hm hm2)
  have HBW := hideIt hbW
  have HW := hideIt hW
  have up : ∀ (l : List Stp) (e : Ending) (w' : World), GaveS W w' l e → GaveS w w' l e := fun _ _ _ ⟨vo, vc, h1, h2, h3, h4⟩ => ⟨vo, vc, h1, h2, h3, nx_trans HBW.out h4⟩
  have UP := hideIt up
  clear hr hn hr2 hm hW hbW hml up
  by_cases h2 : kd = 2
  · subst h2
    go_enter Try.func24, Try.ntmps24
    go_wp2_with fail
    rw [← HW.out]
    refine (HM1.out 2).mono ?_; rintro e w1 hg
    have HG := hideIt (UP.out _ _ _ (GaveS.of_own hg))
    obtain ⟨vo, vc, rfl, _⟩ := hg
    go_wp2_with fail
    go_ret
    exact HG.out
  by_cases h4 : kd = 4
  · subst h4
    go_enter Try.func24, Try.ntmps24
    go_wp2_with fail
    rw [← HW.out]
    refine (HM2.out 4).mono ?_; rintro e w1 hg
    have HG := hideIt (UP.out _ _ _ (GaveS.of_own hg))
    obtain ⟨vo, vc, rfl, _⟩ := hg
    go_wp2_with fail
    go_ret
    exact HG.out
  by_cases h3 : kd = 3
  · subst h3
    go_enter Try.func24, Try.ntmps24
    go_wp2_with fail
    rw [← HW.out]
    refine (cBudget 3 ba bb W).mono ?_; rintro e w1 hg
    have HG := hideIt (UP.out (budL 3 ba bb) _ _ hg)
    obtain ⟨vo, vc, rfl, _⟩ := hg
    go_wp2_with fail
    go_ret
    exact HG.out
  by_cases h7 : kd = 7
  · subst h7
    go_enter Try.func24, Try.ntmps24
    go_wp2_with fail
    rw [← HW.out]
    refine (cBudget 7 ba bb W).mono ?_; rintro e w1 hg
    have HG := hideIt (UP.out (budL 7 ba bb) _ _ hg)
    obtain ⟨vo, vc, rfl, _⟩ := hg
    go_wp2_with fail
    go_ret
    exact HG.out
  have b2 : (kd == 2) = false := by simp [h2]
  have b4 : (kd == 4) = false := by simp [h4]
  have b3 : (kd == 3) = false := by simp [h3]
  have b7 : (kd == 7) = false := by simp [h7]
  have HK : Hid (kindL kd ba ps bb qs = chgL kd ps qs) := by show _ = _; simp [kindL, h2, h4, h3, h7]
  clear h2 h4 h3 h7
  go_enter Try.func24, Try.ntmps24
  go_wp2_with fail
  rw [← HW.out]
  refine (HC.out kd).mono ?_; rintro e w1 hg
  have HG := hideIt (UP.out _ _ _ (GaveS.of_own hg))
  obtain ⟨vo, vc, rfl, _⟩ := hg
  go_wp2_with fail
  go_ret
  rw [HK.out]
  exact HG.out
end Df
end Go.Proofs.Ythkilnhdhacpaaa
