import Derived.Test.YtohbonfngeblkaaGreatMnAd
import Derived.Deep.DeepCutAuto
import Derived.Test.YtohbonfngeblkaaGreatMnAi
namespace Go.Proofs.YtohbonfngeblkaaGreat
open Go.RowKit
namespace Df
open Co Lw
set_option maxRecDepth 20000 in
set_option maxHeartbeats 4000000 in
theorem cChanges (kd : Int) (ao : Option Addr) (n ac : Nat) (ps : List Pl) (bo : Option Addr) (m bc : Nat) (qs : List Pl) (w : World) (hr : RowAt w (.slice ao n ac) n (flatP ps)) (hn : ps.length = n) (hn2 : n ≤ maxLen) (hr2 : RowAt w (.slice bo m bc) m (flatP qs)) (hm : qs.length = m) (hq : m ≤ 1099511627776) :
    Calls Tryz.prog 116 #[.int .i64 kd, .slice ao n ac, .slice bo m bc] w fun e w' => ∃ vo vc, e = .returned (.slice vo (chgL kd ps qs).length vc) ∧ w'.ownsRow w.heap.size 71 3 (.slice vo (chgL kd ps qs).length vc) (chgL kd ps qs).length (flatT (chgL kd ps qs)) ∧ Below w.heap.size w w' := by
  have HR : Hid (RowAt w (.slice bo m bc) m (flatP qs) ∧ qs.length = m) := ⟨hr2, hm⟩
  have HH := hideIt (fun u (hb : Below w.heap.size w u) name => cPoolIn ao n ac name ps u (hr.nx hb) hn hn2)
  clear hr hn hr2 hm
  go_enter Tryz.func116, Tryz.ntmps116
  go_wp2_with fail
  go_loopw [7, 8, 9, 10, 11] (fun l i x9 x10 x11 wr => ∃ (k j : Nat) (vo : Option Addr) (vc : Nat), k ≤ m ∧ j ≤ k ∧ i = .int .i64 k ∧ l = .slice vo j vc ∧ Hid ((chgL kd ps (qs.take k)).length = j ∧ wr.ownsRow w.heap.size 71 3 (.slice vo j vc) j (flatT (chgL kd ps (qs.take k))) ∧ Below w.heap.size w wr)) (fun _ i _ _ _ _ => m - (intOf i).toNat)
  case atStart => exact ⟨0, 0, some ⟨w.heap.size, 0, none⟩, 0, Nat.zero_le _, Nat.le_refl _, rfl, rfl, by simp [chgL], made0 w _ 3 _ rfl _ (Nat.le_refl _), nx_alloc _ _⟩
  case round =>
    obtain ⟨k, j, vo, vc, hk, hj, rfl, rfl, HS⟩ := hrel
    by_cases hlt : k < m
    · obtain ⟨⟨x0, x1, x2, x3⟩, hp⟩ : ∃ p, qs[k]? = some p := ⟨_, List.getElem?_eq_getElem (by rw [HR.out.2]; exact hlt)⟩
      have HRW := hideIt (fun (u : World) (hb : Below wr.heap.size wr u) => pool_at ((HR.out.1.nx HS.out.2.2).nx hb) hp)
      obtain ⟨bl, off, hao, hbl, c0, c1, c2, c3⟩ := HRW.out wr (Below.refl _ _)
      subst hao
      simp only at c0 c1 c2 c3
      have hlti : (k : Int) < (m : Int) := by omega
      obtain ⟨⟨y0, y1, y2, y3⟩, hy⟩ : ∃ y, inP ps x0 = y := ⟨_, rfl⟩
      have HNX : Hid (chgL kd ps (qs.take (k + 1)) = chgL kd ps (qs.take k) ++ if leadsB kd (numP kd ⟨y0, y1, y2, y3⟩) (numP kd ⟨x0, x1, x2, x3⟩) = true then [stepP kd x0 (numP kd ⟨x0, x1, x2, x3⟩)] else []) := by
        obtain ⟨hk', e⟩ := List.getElem?_eq_some_iff.1 hp
        show _ = _
        unfold chgL
        rw [List.take_succ_eq_append_getElem hk', List.filter_append, List.map_append, e]
        congr 1
        cases hkk : leadsB kd (numP kd ⟨y0, y1, y2, y3⟩) (numP kd ⟨x0, x1, x2, x3⟩) <;> simp [chgP, hy, hkk]
      clear hp
      go_wp2_with fail
      refine (HH.out _ HS.out.2.2 _).mono ?_; rintro e w1 ⟨rfl, hb1⟩
      rw [hy]
      obtain ⟨nf, hnf⟩ : ∃ nf, numP kd ⟨y0, y1, y2, y3⟩ = nf := ⟨_, rfl⟩
      obtain ⟨nt, hnt⟩ : ∃ nt, numP kd ⟨x0, x1, x2, x3⟩ = nt := ⟨_, rfl⟩
      rw [hnf, hnt] at HNX
      have HNF := hideIt hnf
      have HNT := hideIt hnt
      have HB1 := hideIt hb1
      clear hy hnf hnt hb1
      go_wp2_with fail
      refine (cNum kd y0 y1 y2 y3 _).mono ?_; rintro e w3 ⟨rfl, hb3⟩
      rw [HNF.out]
      have HB3 := hideIt (nx_trans HB1.out (nx_trans (nx_alloc _ _) hb3))
      obtain ⟨bl', off', e', hbl', d0, d1, d2, d3⟩ := HRW.out w3 HB3.out
      obtain ⟨rfl, rfl⟩ : bl = bl' ∧ off = off' := by simpa using e'
      clear hb3 e' hbl'
      go_wp2_with fail
      refine (cNum kd x0 x1 x2 x3 _).mono ?_; rintro e w4 ⟨rfl, hb4⟩
      rw [HNT.out]
      have HB4 := hideIt (nx_trans HB3.out hb4)
      obtain ⟨bl', off', e', hbl', f0, f1, f2, f3⟩ := HRW.out w4 HB4.out
      obtain ⟨rfl, rfl⟩ : bl = bl' ∧ off = off' := by simpa using e'
      clear hb4 e' hbl'
      go_wp2_with fail
      refine (cLeads kd nf nt _).mono ?_; rintro e w5 ⟨rfl, h5⟩; obtain rfl := h5.symm
      have HSW : Hid (w4.ownsRow w.heap.size 71 3 (.slice vo j vc) j (flatT (chgL kd ps (qs.take k))) ∧ Below w.heap.size w w4) := ⟨own_below HS.out.2.1 HB4.out, nx_trans HS.out.2.2 HB4.out⟩
      cases hx : leadsB kd nf nt with
      | false =>
        have HN : Hid (chgL kd ps (qs.take (k + 1)) = chgL kd ps (qs.take k)) := by
          show _ = _
          rw [HNX.out, hx]; simp
        clear hx
        go_wp2_with fail
        go_roundw
        case rel => exact ⟨k + 1, j, vo, vc, by omega, by omega, by go_num, rfl, by rw [HN.out]; exact ⟨HS.out.1, HSW.out⟩⟩
        case measure => simp [intOf]; omega
      | true =>
        have HN : Hid (chgL kd ps (qs.take (k + 1)) = chgL kd ps (qs.take k) ++ [stepP kd x0 nt]) := by
          show _ = _
          rw [HNX.out, hx]; simp
        clear hx
        go_wp2_with (at_builtin; refine appendG 71 31 3 32 _ info_S Tryz.underlying31 rfl (by decide) (by decide) rfl (.tmp 39) (.tmp 48) rfl w.heap.size _ j (flatT (chgL kd ps (qs.take k))) rfl (HSW.out.1.alloc _) (some ⟨w4.heap.size, 0, none⟩) 1 1 [.int .i64 kd, .string x0, .int .i64 nt] rfl rfl (row_new w4 [.int .i64 kd, .string x0, .int .i64 nt] _ 1 rfl) (by intro u hu; simp at hu; rcases hu with rfl | rfl | rfl <;> rfl) (fun h => by cases h) (by omega) (by simp; have := HSW.out.2.size; omega) ?next)
        case next =>
          intro v' w6 hown6 hb6
          obtain ⟨vo6, vc6, rfl, _⟩ := own_row hown6
          have K6 : Hid ((chgL kd ps (qs.take (k + 1))).length = j + 1 ∧ w6.ownsRow w.heap.size 71 3 (.slice vo6 (j + 1) vc6) (j + 1) (flatT (chgL kd ps (qs.take (k + 1)))) ∧ Below w.heap.size w w6) := by
            refine ⟨by rw [HN.out]; simp [HS.out.1], ?_, (HSW.out.2.alloc HSW.out.2.size _).trans hb6⟩
            rw [HN.out]
            unfold flatT
            rw [List.flatMap_append]
            exact hown6
          clear hown6 hb6
          go_wp2_with fail
          go_roundw
          case rel => exact ⟨k + 1, j + 1, vo6, vc6, by omega, by omega, by go_num, rfl, K6.out⟩
          case measure => simp [intOf]; omega
    · have HE : Hid ((chgL kd ps qs).length = j ∧ wr.ownsRow w.heap.size 71 3 (.slice vo j vc) j (flatT (chgL kd ps qs)) ∧ Below w.heap.size w wr) := by
        have ht : qs.take k = qs := List.take_of_length_le (by rw [HR.out.2]; omega)
        have := HS.out
        rw [ht] at this
        exact this
      go_wp2_with fail
      go_ret
      exact ⟨vo, vc, by rw [HE.out.1]; rfl, by rw [HE.out.1]; exact HE.out.2.1, HE.out.2.2⟩
def GaveS (w w' : World) (l : List Stp) (e : Ending) : Prop := ∃ vo vc, e = .returned (.slice vo l.length vc) ∧ RowAt w' (.slice vo l.length vc) l.length (flatT l) ∧ (vo = none → vc = 0) ∧ Below w.heap.size w w'
theorem GaveS.of_own {w w' : World} {l : List Stp} {e : Ending} {B : Nat} (h : ∃ vo vc, e = .returned (.slice vo l.length vc) ∧ w'.ownsRow B 71 3 (.slice vo l.length vc) l.length (flatT l) ∧ Below w.heap.size w w') : GaveS w w' l e := by
  obtain ⟨vo, vc, h1, h2, h3⟩ := h
  exact ⟨vo, vc, h1, own_row h2, own_nilc h2, h3⟩
set_option maxRecDepth 20000 in
set_option maxHeartbeats 4000000 in
theorem cStepsOf (kd ba : Int) (ao : Option Addr) (n ac : Nat) (ps : List Pl) (bb : Int) (bo : Option Addr) (m bc : Nat) (qs : List Pl) (w : World) (hr : RowAt w (.slice ao n ac) n (flatP ps)) (hn : ps.length = n) (hn2 : n ≤ 1099511627776) (hr2 : RowAt w (.slice bo m bc) m (flatP qs)) (hm : qs.length = m) (hm2 : m ≤ 1099511627776) :
    Calls Tryz.prog 98 #[.int .i64 kd, .agg #[.int .i64 ba, .slice ao n ac], .agg #[.int .i64 bb, .slice bo m bc]] w fun e w' => GaveS w w' (kindL kd ba ps bb qs) e := by
  obtain ⟨W, hW⟩ : ∃ W, W = (w.alloc (bTab ba (.slice ao n ac))).alloc (bTab bb (.slice bo m bc)) := ⟨_, rfl⟩
  have hbW : Below w.heap.size w W := by rw [hW]; exact nx_trans (nx_alloc _ _) (nx_alloc _ _)
  have hml : ∀ x : Nat, x ≤ 1099511627776 → x ≤ maxLen := fun x hx => by unfold maxLen; omega
  have HM1 := hideIt (fun k => cMissing k ao n ac ps bo m bc qs W (hr.nx hbW) hn hn2 (hr2.nx hbW) hm (hml _ hm2))
  have HM2 := hideIt (fun k => cMissing k bo m bc qs ao n ac ps W (hr2.nx hbW) hm hm2 (hr.nx hbW) hn (hml _ hn2))
  have HC := hideIt (fun k => cChanges k ao n ac ps bo m bc qs W (hr.nx hbW) hn (hml _ hn2) (hr2.nx hbW) hm hm2)
  have HBW := hideIt hbW
  have HW := hideIt hW
  have up : ∀ (l : List Stp) (e : Ending) (w' : World), GaveS W w' l e → GaveS w w' l e := fun _ _ _ ⟨vo, vc, h1, h2, h3, h4⟩ => ⟨vo, vc, h1, h2, h3, nx_trans HBW.out h4⟩
  have UP := hideIt up
  clear hr hn hr2 hm hW hbW hml up
  by_cases h2 : kd = 2
  · subst h2
    go_enter Tryz.func98, Tryz.ntmps98
    go_wp2_with fail
    rw [← HW.out]
    refine (HM1.out 2).mono ?_; rintro e w1 hg
    have HG := hideIt (UP.out _ _ _ (GaveS.of_own hg))
    obtain ⟨vo, vc, rfl, _⟩ := hg
    go_wp2_with fail
    go_ret
    exact HG.out
  by_cases h4 : kd = 4
  · subst h4
    go_enter Tryz.func98, Tryz.ntmps98
    go_wp2_with fail
    rw [← HW.out]
    refine (HM2.out 4).mono ?_; rintro e w1 hg
    have HG := hideIt (UP.out _ _ _ (GaveS.of_own hg))
    obtain ⟨vo, vc, rfl, _⟩ := hg
    go_wp2_with fail
    go_ret
    exact HG.out
  by_cases h3 : kd = 3
  · subst h3
    go_enter Tryz.func98, Tryz.ntmps98
    go_wp2_with fail
    rw [← HW.out]
    refine (cBudget 3 ba bb W).mono ?_; rintro e w1 hg
    have HG := hideIt (UP.out (budL 3 ba bb) _ _ hg)
    obtain ⟨vo, vc, rfl, _⟩ := hg
    go_wp2_with fail
    go_ret
    exact HG.out
  by_cases h7 : kd = 7
  · subst h7
    go_enter Tryz.func98, Tryz.ntmps98
    go_wp2_with fail
    rw [← HW.out]
    refine (cBudget 7 ba bb W).mono ?_; rintro e w1 hg
    have HG := hideIt (UP.out (budL 7 ba bb) _ _ hg)
    obtain ⟨vo, vc, rfl, _⟩ := hg
    go_wp2_with fail
    go_ret
    exact HG.out
  have b2 : (kd == 2) = false := by simp [h2]
  have b4 : (kd == 4) = false := by simp [h4]
  have b3 : (kd == 3) = false := by simp [h3]
  have b7 : (kd == 7) = false := by simp [h7]
  have HK : Hid (kindL kd ba ps bb qs = chgL kd ps qs) := by show _ = _; simp [kindL, h2, h4, h3, h7]
  clear h2 h4 h3 h7
  go_enter Tryz.func98, Tryz.ntmps98
  go_wp2_with fail
  rw [← HW.out]
  refine (HC.out kd).mono ?_; rintro e w1 hg
  have HG := hideIt (UP.out _ _ _ (GaveS.of_own hg))
  obtain ⟨vo, vc, rfl, _⟩ := hg
  go_wp2_with fail
  go_ret
  rw [HK.out]
  exact HG.out
end Df
end Go.Proofs.YtohbonfngeblkaaGreat
namespace Go.Proofs.YtohbonfngeblkaaGreat
open Go.RowKit
namespace Df
open Co Lw
theorem kindL_len (k ba : Int) (ps : List Pl) (bb : Int) (qs : List Pl) (h1 : ps.length ≤ 6) (h2 : qs.length ≤ 6) : (kindL k ba ps bb qs).length ≤ 7 := by
  unfold kindL
  split
  · unfold missL
    rw [List.length_map]
    exact Nat.le_trans (List.length_filter_le _ _) (by omega)
  · split
    · unfold missL
      rw [List.length_map]
      exact Nat.le_trans (List.length_filter_le _ _) (by omega)
    · split
      · unfold budL
        split <;> simp
      · unfold chgL
        rw [List.length_map]
        exact Nat.le_trans (List.length_filter_le _ _) (by omega)
theorem diffTo_succ (i : Nat) (ba : Int) (ps : List Pl) (bb : Int) (qs : List Pl) : diffTo (i + 1) ba ps bb qs = diffTo i ba ps bb qs ++ kindL ((i : Int) + 1) ba ps bb qs := by
  unfold diffTo
  rw [List.range_succ, List.flatMap_append]
  simp
def gotL (ok : Bool) (ba : Int) (ps : List Pl) (bb : Int) (qs : List Pl) : List Stp := if ok = true then diffL ba ps bb qs else []
def gotE (ok : Bool) : Int := if ok = true then 0 else 9
def GaveD (w w' : World) (ok : Bool) (ba : Int) (ps : List Pl) (bb : Int) (qs : List Pl) (e : Ending) : Prop :=
  ∃ vo vc, e = .returned (.tuple #[.slice vo (gotL ok ba ps bb qs).length vc, .int .i64 (gotE ok)]) ∧ w'.ownsRow w.heap.size 71 3 (.slice vo (gotL ok ba ps bb qs).length vc) (gotL ok ba ps bb qs).length (flatT (gotL ok ba ps bb qs)) ∧ Below w.heap.size w w'
theorem gave_no {w w' : World} (ba : Int) (ps : List Pl) (bb : Int) (qs : List Pl) (hb : Below w.heap.size w w') : GaveD w w' false ba ps bb qs (.returned (.tuple #[.slice none 0 0, .int .i64 9])) :=
  ⟨none, 0, rfl, ⟨rfl, .inl ⟨rfl, rfl⟩⟩, hb⟩
def GaveB (w w' : World) (ba : Int) (ps : List Pl) (bb : Int) (qs : List Pl) (e : Ending) : Prop :=
  ∃ vo vc, e = .returned (.slice vo (diffL ba ps bb qs).length vc) ∧ w'.ownsRow w.heap.size 71 3 (.slice vo (diffL ba ps bb qs).length vc) (diffL ba ps bb qs).length (flatT (diffL ba ps bb qs)) ∧ Below w.heap.size w w'
set_option maxRecDepth 20000 in
set_option maxHeartbeats 4000000 in
theorem cBetween (ba : Int) (ao : Option Addr) (n ac : Nat) (ps : List Pl) (bb : Int) (bo : Option Addr) (m bc : Nat) (qs : List Pl) (w : World) (hr : RowAt w (.slice ao n ac) n (flatP ps)) (hn : ps.length = n) (hn6 : n ≤ 6) (hr2 : RowAt w (.slice bo m bc) m (flatP qs)) (hm : qs.length = m) (hm6 : m ≤ 6) :
    Calls Tryz.prog 74 #[.agg #[.int .i64 ba, .slice ao n ac], .agg #[.int .i64 bb, .slice bo m bc]] w fun e w' => GaveB w w' ba ps bb qs e := by
  obtain ⟨w2, hW⟩ : ∃ W, W = (w.alloc (bTab ba (.slice ao n ac))).alloc (bTab bb (.slice bo m bc)) := ⟨_, rfl⟩
  have hbW : Below w.heap.size w w2 := by rw [hW]; exact nx_trans (nx_alloc _ _) (nx_alloc _ _)
  have HH2 : Hid (w2.heap[w.heap.size]? = some (bTab ba (.slice ao n ac)) ∧ w2.heap[w.heap.size + 1]? = some (bTab bb (.slice bo m bc)) ∧ w.heap.size + 2 ≤ w2.heap.size) := by
    refine ⟨?_, ?_, ?_⟩
    · rw [hW]; exact (heap_alloc_lt _ _ (by simp)).trans (heap_alloc_at _ _ rfl)
    · rw [hW]; exact heap_alloc_at _ _ (by simp)
    · rw [hW]; simp
  have HW := hideIt hW
  have HB2 := hideIt hbW
  have HR : Hid (RowAt w (.slice ao n ac) n (flatP ps) ∧ ps.length = n ∧ RowAt w (.slice bo m bc) m (flatP qs) ∧ qs.length = m ∧ True) := ⟨hr, hn, hr2, hm, trivial⟩
  clear hr hn hr2 hm hW hbW
  go_enter Tryz.func74, Tryz.ntmps74
  go_upto_region 1 with fail
  rw [← HW.out]
  go_wp2_with fail
  go_loopw [5, 6, 7] (fun l kd x wr => ∃ (i j : Nat) (vo : Option Addr) (vc : Nat), i ≤ 8 ∧ j ≤ 7 * i ∧ kd = .int .i64 ((i : Int) + 1) ∧ l = .slice vo j vc ∧ Hid ((diffTo i ba ps bb qs).length = j ∧ wr.ownsRow w2.heap.size 71 3 (.slice vo j vc) j (flatT (diffTo i ba ps bb qs)) ∧ Below w2.heap.size w2 wr)) (fun _ kd _ _ => 9 - (intOf kd).toNat)
  case atStart => exact ⟨0, 0, some ⟨w2.heap.size, 0, none⟩, 0, Nat.zero_le _, Nat.le_refl _, rfl, rfl, by simp [diffTo], made0 w2 _ 3 _ rfl _ (Nat.le_refl _), nx_alloc _ _⟩
  case round =>
    obtain ⟨i, j, vo, vc, hi, hj, rfl, rfl, HS⟩ := hrel
    have hra : wr.heap[w.heap.size]? = some (bTab ba (.slice ao n ac)) := (HS.out.2.2.block _ (by have := HH2.out.2.2; omega)).trans HH2.out.1
    have hrb : wr.heap[w.heap.size + 1]? = some (bTab bb (.slice bo m bc)) := (HS.out.2.2.block _ (by have := HH2.out.2.2; omega)).trans HH2.out.2.1
    obtain ⟨a0, a1, az⟩ := blk2 hra
    obtain ⟨b0, b1, bz⟩ := blk2 hrb
    clear hra hrb
    by_cases hlt : i < 8
    · have hlti : (i : Int) + 1 ≤ 8 := by omega
      have HBR := hideIt (nx_trans HB2.out HS.out.2.2)
      have HC := hideIt (cStepsOf ((i : Int) + 1) ba ao n ac ps bb bo m bc qs wr (HR.out.1.nx HBR.out) HR.out.2.1 (by omega) (HR.out.2.2.1.nx HBR.out) HR.out.2.2.2.1 (by omega))
      have HN := hideIt (diffTo_succ i ba ps bb qs)
      have hkl := kindL_len ((i : Int) + 1) ba ps bb qs (by rw [HR.out.2.1]; exact hn6) (by rw [HR.out.2.2.2.1]; exact hm6)
      go_wp2_with fail
      refine HC.out.mono ?_; rintro e w3 ⟨so, sc, rfl, hrow, hnil, hb3⟩
      obtain ⟨q, hq⟩ : ∃ q, (kindL ((i : Int) + 1) ba ps bb qs).length = q := ⟨_, rfl⟩
      rw [hq] at hrow hkl ⊢
      have HX : Hid ((kindL ((i : Int) + 1) ba ps bb qs).length = q ∧ RowAt w3 (.slice so q sc) q (flatT (kindL ((i : Int) + 1) ba ps bb qs)) ∧ (so = none → sc = 0) ∧ w3.ownsRow w2.heap.size 71 3 (.slice vo j vc) j (flatT (diffTo i ba ps bb qs)) ∧ Below w2.heap.size w2 w3) := ⟨hq, hrow, hnil, own_below HS.out.2.1 hb3, nx_trans HS.out.2.2 hb3⟩
      clear hrow hnil hb3 hq a0 a1 az b0 b1 bz
      go_wp2_with (at_builtin; refine appendG 71 31 3 32 _ info_S Tryz.underlying31 rfl (by decide) (by decide) rfl (.tmp 17) (.tmp 18) rfl w2.heap.size _ j (flatT (diffTo i ba ps bb qs)) rfl HX.out.2.2.2.1 so q sc (flatT (kindL ((i : Int) + 1) ba ps bb qs)) rfl (by rw [flatT_len, HX.out.1]) HX.out.2.1 (flatT_one _) HX.out.2.2.1 (by omega) HX.out.2.2.2.2.size ?next)
      case next =>
        intro v' w6 hown6 hb6
        obtain ⟨vo6, vc6, rfl, _⟩ := own_row hown6
        have K6 : Hid ((diffTo (i + 1) ba ps bb qs).length = j + q ∧ w6.ownsRow w2.heap.size 71 3 (.slice vo6 (j + q) vc6) (j + q) (flatT (diffTo (i + 1) ba ps bb qs)) ∧ Below w2.heap.size w2 w6) := by
          refine ⟨by rw [HN.out, List.length_append, HS.out.1, HX.out.1], ?_, HX.out.2.2.2.2.trans hb6⟩
          rw [HN.out]
          unfold flatT
          rw [List.flatMap_append]
          exact hown6
        clear hown6 hb6
        go_wp2_with fail
        go_roundw
        case rel => exact ⟨i + 1, j + q, vo6, vc6, by omega, by omega, by go_num, rfl, K6.out⟩
        case measure => simp [intOf]; omega
    · obtain rfl : i = 8 := by omega
      go_wp2_with fail
      go_ret
      refine ⟨vo, vc, ?_, ?_, nx_trans HB2.out HS.out.2.2⟩
      · show Ending.returned _ = Ending.returned (.slice vo (diffTo 8 ba ps bb qs).length vc)
        rw [HS.out.1]
        rfl
      · show wr.ownsRow w.heap.size 71 3 (.slice vo (diffTo 8 ba ps bb qs).length vc) (diffTo 8 ba ps bb qs).length (flatT (diffTo 8 ba ps bb qs))
        rw [HS.out.1]
        exact own_mono HS.out.2.1 HB2.out.size
set_option maxRecDepth 20000 in
set_option maxHeartbeats 4000000 in
theorem cDiff (oka okb : Bool) (ba : Int) (ao : Option Addr) (n ac : Nat) (ps : List Pl) (bb : Int) (bo : Option Addr) (m bc : Nat) (qs : List Pl) (w : World) (hr : RowAt w (.slice ao n ac) n (flatP ps)) (hn : ps.length = n) (hn2 : oka = true → n ≤ 6) (hr2 : RowAt w (.slice bo m bc) m (flatP qs)) (hm : qs.length = m) (hm2 : okb = true → m ≤ 6)
    (hA : ∀ u, Below w.heap.size w u → Calls Tryz.prog 75 #[.agg #[.int .i64 ba, .slice ao n ac]] u fun e w' => e = .returned (.bool oka) ∧ Below u.heap.size u w')
    (hB : ∀ u, Below w.heap.size w u → Calls Tryz.prog 75 #[.agg #[.int .i64 bb, .slice bo m bc]] u fun e w' => e = .returned (.bool okb) ∧ Below u.heap.size u w') :
    Calls Tryz.prog 57 #[.agg #[.int .i64 ba, .slice ao n ac], .agg #[.int .i64 bb, .slice bo m bc]] w fun e w' => GaveD w w' (oka && okb) ba ps bb qs e := by
  obtain ⟨W, hW⟩ : ∃ W, W = (w.alloc (bTab ba (.slice ao n ac))).alloc (bTab bb (.slice bo m bc)) := ⟨_, rfl⟩
  have hbW : Below w.heap.size w W := by rw [hW]; exact nx_trans (nx_alloc _ _) (nx_alloc _ _)
  have HW : Hid (W = (w.alloc (bTab ba (.slice ao n ac))).alloc (bTab bb (.slice bo m bc)) ∧ W.heap[w.heap.size]? = some (bTab ba (.slice ao n ac)) ∧ W.heap[w.heap.size + 1]? = some (bTab bb (.slice bo m bc)) ∧ w.heap.size + 2 = W.heap.size ∧ Below w.heap.size w W) := by
    refine ⟨hW, ?_, ?_, ?_, hbW⟩
    · rw [hW]; exact (heap_alloc_lt _ _ (by simp)).trans (heap_alloc_at _ _ rfl)
    · rw [hW]; exact heap_alloc_at _ _ (by simp)
    · rw [hW]; simp
  have HA := hideIt (hA W hbW)
  have HB := hideIt hB
  have HR : Hid (RowAt w (.slice ao n ac) n (flatP ps) ∧ ps.length = n ∧ RowAt w (.slice bo m bc) m (flatP qs) ∧ qs.length = m ∧ (oka = true → n ≤ 6) ∧ (okb = true → m ≤ 6)) := ⟨hr, hn, hr2, hm, hn2, hm2⟩
  clear hr hn hr2 hm hA hB hn2 hm2 hW hbW
  go_enter Tryz.func57, Tryz.ntmps57
  go_wp2_with fail
  rw [← HW.out.1]
  refine HA.out.mono ?_; rintro e w1 ⟨rfl, hb1⟩
  have HB1 := hideIt (nx_trans HW.out.2.2.2.2 hb1)
  cases oka with
  | false =>
    clear hb1
    go_wp2_with fail
    go_ret2
    exact gave_no ba ps bb qs HB1.out
  | true =>
    have h1a : w1.heap[w.heap.size]? = some (bTab ba (.slice ao n ac)) := (hb1.block _ (by have := HW.out.2.2.2.1; omega)).trans HW.out.2.1
    have h1b : w1.heap[w.heap.size + 1]? = some (bTab bb (.slice bo m bc)) := (hb1.block _ (by have := HW.out.2.2.2.1; omega)).trans HW.out.2.2.1
    obtain ⟨a0, a1, az⟩ := blk2 h1a
    obtain ⟨b0, b1, bz⟩ := blk2 h1b
    have HH1 := hideIt (And.intro h1a h1b)
    clear h1a h1b hb1
    go_wp2_with fail
    refine (HB.out w1 HB1.out).mono ?_; rintro e w2 ⟨rfl, hb2⟩
    have HB2 := hideIt (nx_trans HB1.out hb2)
    cases okb with
    | false =>
      clear hb2
      go_wp2_with fail
      go_ret2
      exact gave_no ba ps bb qs HB2.out
    | true =>
      have hn6 : n ≤ 6 := by simpa using HR.out.2.2.2.2.1
      have hm6 : m ≤ 6 := by simpa using HR.out.2.2.2.2.2
      have HH2 : Hid (w2.heap[w.heap.size]? = some (bTab ba (.slice ao n ac)) ∧ w2.heap[w.heap.size + 1]? = some (bTab bb (.slice bo m bc)) ∧ w.heap.size + 2 ≤ w2.heap.size) := by
        have z := (Array.getElem?_eq_some_iff.1 HH1.out.2).1
        exact ⟨(hb2.block _ (by omega)).trans HH1.out.1, (hb2.block _ z).trans HH1.out.2, Nat.le_trans (show w.heap.size + 2 ≤ w1.heap.size by omega) hb2.size⟩
      clear hb2 a0 a1 az b0 b1 bz HH1 HA HB
      obtain ⟨a0, a1, az⟩ := blk2 HH2.out.1
      obtain ⟨b0, b1, bz⟩ := blk2 HH2.out.2.1
      have HBT := hideIt (cBetween ba ao n ac ps bb bo m bc qs w2 (HR.out.1.nx HB2.out) HR.out.2.1 hn6 (HR.out.2.2.1.nx HB2.out) HR.out.2.2.2.1 hm6)
      go_wp2_with fail
      refine HBT.out.mono ?_; rintro e w3 ⟨vo, vc, rfl, ho, hb3⟩
      have HG : Hid (GaveD w w3 (true && true) ba ps bb qs (.returned (.tuple #[.slice vo (diffL ba ps bb qs).length vc, .int .i64 0]))) := ⟨vo, vc, rfl, own_mono ho HB2.out.size, nx_trans HB2.out hb3⟩
      clear ho hb3
      go_wp2_with fail
      go_ret2
      exact HG.out
theorem pDiff (oka okb : Bool) (ba : Int) (ao : Option Addr) (n ac : Nat) (ps : List Pl) (bb : Int) (bo : Option Addr) (m bc : Nat) (qs : List Pl) (w : World) (hr : RowAt w (.slice ao n ac) n (flatP ps)) (hn : ps.length = n) (hn2 : oka = true → n ≤ 6) (hr2 : RowAt w (.slice bo m bc) m (flatP qs)) (hm : qs.length = m) (hm2 : okb = true → m ≤ 6)
    (hA : ∀ u, Below w.heap.size w u → Calls Tryz.prog 75 #[.agg #[.int .i64 ba, .slice ao n ac]] u fun e w' => e = .returned (.bool oka) ∧ Below u.heap.size u w')
    (hB : ∀ u, Below w.heap.size w u → Calls Tryz.prog 75 #[.agg #[.int .i64 bb, .slice bo m bc]] u fun e w' => e = .returned (.bool okb) ∧ Below u.heap.size u w') :
    Calls Tryz.prog 27 #[.agg #[.int .i64 ba, .slice ao n ac], .agg #[.int .i64 bb, .slice bo m bc]] w fun e w' => GaveD w w' (oka && okb) ba ps bb qs e := by
  obtain ⟨W, hW⟩ : ∃ W, W = (w.alloc (bTab ba (.slice ao n ac))).alloc (bTab bb (.slice bo m bc)) := ⟨_, rfl⟩
  have hbW : Below w.heap.size w W := by rw [hW]; exact nx_trans (nx_alloc _ _) (nx_alloc _ _)
  have HC := hideIt (cDiff oka okb ba ao n ac ps bb bo m bc qs W (hr.nx hbW) hn hn2 (hr2.nx hbW) hm hm2 (fun u hu => hA u (nx_trans hbW hu)) (fun u hu => hB u (nx_trans hbW hu)))
  have HW := hideIt (And.intro hW hbW)
  clear hr hn hr2 hm hA hB hn2 hm2 hW hbW
  go_enter Tryz.func27, Tryz.ntmps27
  go_wp2_with fail
  rw [← HW.out.1]
  refine HC.out.mono ?_; rintro e w1 ⟨vo, vc, rfl, ho, hb⟩
  have HG : Hid (GaveD w w1 (oka && okb) ba ps bb qs (.returned (.tuple #[.slice vo (gotL (oka && okb) ba ps bb qs).length vc, .int .i64 (gotE (oka && okb))]))) := ⟨vo, vc, rfl, own_mono ho HW.out.2.size, nx_trans HW.out.2 hb⟩
  clear ho hb
  go_wp2_with fail
  go_ret2
  exact HG.out
end Df
end Go.Proofs.YtohbonfngeblkaaGreat
namespace Go.Proofs.YtohbonfngeblkaaGreat
open Go.RowKit
namespace Df
open Co Lw
abbrev Up (l : List Pl) : Prop := l.Pairwise (fun a b => lt a.nm b.nm = true)
def lk (l : List Pl) (nm : ByteArray) : Option Pl := l.find? (isNameP nm)
theorem isN_eq {nm : ByteArray} {p : Pl} : isNameP nm p = true ↔ p.nm = nm := by
  constructor
  · intro h; exact bytes_eq h
  · rintro rfl; simp [isNameP]
theorem isN_ne {nm : ByteArray} {p : Pl} (h : p.nm ≠ nm) : isNameP nm p = false := by
  cases h2 : isNameP nm p with
  | false => rfl
  | true => exact absurd (isN_eq.1 h2) h
theorem lk_nm {l : List Pl} {nm : ByteArray} {p : Pl} (h : lk l nm = some p) : p.nm = nm := isN_eq.1 (List.find?_some h)
theorem lk_mem {l : List Pl} {nm : ByteArray} {p : Pl} (h : lk l nm = some p) : p ∈ l := List.mem_of_find?_eq_some h
theorem lk_none {l : List Pl} {nm : ByteArray} : lk l nm = none ↔ ∀ p ∈ l, p.nm ≠ nm := by
  unfold lk
  rw [List.find?_eq_none]
  constructor
  · intro h p hp e; exact h p hp (isN_eq.2 e)
  · intro h p hp e; exact h p hp (isN_eq.1 e)
theorem lk_cons_eq {x : Pl} {l : List Pl} {nm : ByteArray} (h : x.nm = nm) : lk (x :: l) nm = some x := List.find?_cons_of_pos (isN_eq.2 h)
theorem lk_cons_ne {x : Pl} {l : List Pl} {nm : ByteArray} (h : x.nm ≠ nm) : lk (x :: l) nm = lk l nm := List.find?_cons_of_neg (by rw [isN_ne h]; simp)
theorem lk_of_mem : ∀ {l : List Pl}, Up l → ∀ {x : Pl}, x ∈ l → lk l x.nm = some x
  | [], _, x, hx => by simp at hx
  | y :: r, hu, x, hx => by
    rcases List.mem_cons.1 hx with rfl | hx
    · exact lk_cons_eq rfl
    · rw [lk_cons_ne (lt_ne ((List.pairwise_cons.1 hu).1 x hx)), lk_of_mem (List.pairwise_cons.1 hu).2 hx]
theorem up_ext : ∀ {l l' : List Pl}, Up l → Up l' → (∀ nm, lk l nm = lk l' nm) → l = l'
  | [], [], _, _, _ => rfl
  | [], y :: r, _, _, h => by
    have := h y.nm
    rw [lk_cons_eq rfl] at this
    simp [lk] at this
  | x :: r, [], _, _, h => by
    have := h x.nm
    rw [lk_cons_eq rfl] at this
    simp [lk] at this
  | x :: r, y :: r', h1, h2, h => by
    have hx : lk (y :: r') x.nm = some x := by rw [← h, lk_cons_eq rfl]
    have hy : lk (x :: r) y.nm = some y := by rw [h, lk_cons_eq rfl]
    obtain ⟨a1, b1⟩ := List.pairwise_cons.1 h1
    obtain ⟨a2, b2⟩ := List.pairwise_cons.1 h2
    have e : x = y := by
      rcases List.mem_cons.1 (lk_mem hx) with e | hm
      · exact e
      · rcases List.mem_cons.1 (lk_mem hy) with e | hm'
        · exact e.symm
        · have c1 := a2 x hm
          have c2 := a1 y hm'
          rw [lt_asym c1] at c2
          exact absurd c2 (by simp)
    subst e
    congr 1
    refine up_ext b1 b2 (fun nm => ?_)
    by_cases hn : x.nm = nm
    · rw [lk_none.2 (fun p hp e => lt_ne (a1 p hp) (hn.trans e.symm)), lk_none.2 (fun p hp e => lt_ne (a2 p hp) (hn.trans e.symm))]
    · have := h nm
      rwa [lk_cons_ne hn, lk_cons_ne hn] at this
theorem up_len : ∀ {l' l : List Pl}, Up l → Up l' → (∀ x ∈ l, ∃ y ∈ l', y.nm = x.nm) → l.length ≤ l'.length
  | [], l, _, _, h => by
    cases l with
    | nil => simp
    | cons x r => obtain ⟨y, hy, _⟩ := h x (by simp); simp at hy
  | y :: r', [], _, _, _ => by simp
  | y :: r', x :: r, h1, h2, h => by
    obtain ⟨a1, b1⟩ := List.pairwise_cons.1 h1
    obtain ⟨a2, b2⟩ := List.pairwise_cons.1 h2
    by_cases e : y.nm = x.nm
    · have := up_len (l' := r') (l := r) b1 b2 (fun z hz => by
        obtain ⟨u, hu, he⟩ := h z (by simp [hz])
        rcases List.mem_cons.1 hu with rfl | hu
        · exact absurd (e.symm.trans he) (lt_ne (a1 z hz))
        · exact ⟨u, hu, he⟩)
      simp; omega
    · have := up_len (l' := r') (l := x :: r) h1 b2 (fun z hz => by
        obtain ⟨u, hu, he⟩ := h z hz
        rcases List.mem_cons.1 hu with rfl | hu
        · exfalso
          obtain ⟨v, hv, hve⟩ := h x (by simp)
          rcases List.mem_cons.1 hv with rfl | hv
          · exact e hve
          · have c1 := a2 v hv
            rw [hve] at c1
            rcases List.mem_cons.1 hz with rfl | hz
            · exact e he
            · have c2 := a1 z hz
              rw [← he] at c2
              rw [lt_asym c1] at c2
              exact absurd c2 (by simp)
        · exact ⟨u, hu, he⟩)
      simp at this ⊢; omega
def updT (nm : ByteArray) (f : Pl → Pl) (ts : List Pl) : List Pl := ts.map (fun p => if isNameP nm p = true then f p else p)
def dropT (nm : ByteArray) (ts : List Pl) : List Pl := ts.filter (fun p => !isNameP nm p)
theorem lk_upd {f : Pl → Pl} (hf : ∀ p, (f p).nm = p.nm) (nm m : ByteArray) : ∀ (ts : List Pl), lk (updT nm f ts) m = if nm = m then (lk ts m).map f else lk ts m
  | [] => by simp [lk, updT]
  | x :: r => by
    have ih := lk_upd hf nm m r
    have e : updT nm f (x :: r) = (if isNameP nm x = true then f x else x) :: updT nm f r := rfl
    have hn : (if isNameP nm x = true then f x else x).nm = x.nm := by split <;> simp [hf]
    rw [e]
    by_cases hx : x.nm = m
    · rw [lk_cons_eq (hn.trans hx), lk_cons_eq hx]
      by_cases h : nm = m
      · rw [if_pos h, if_pos (isN_eq.2 (hx.trans h.symm))]; rfl
      · rw [if_neg h, if_neg (by rw [isN_eq]; exact fun e => h (e.symm.trans hx))]
    · rw [lk_cons_ne (by rw [hn]; exact hx), lk_cons_ne hx, ih]
theorem up_upd {f : Pl → Pl} (hf : ∀ p, (f p).nm = p.nm) (nm : ByteArray) {ts : List Pl} (h : Up ts) : Up (updT nm f ts) := by
  unfold Up updT
  rw [List.pairwise_map]
  refine List.Pairwise.imp ?_ h
  intro a b hab
  have ha : (if isNameP nm a = true then f a else a).nm = a.nm := by split <;> simp [hf]
  have hb : (if isNameP nm b = true then f b else b).nm = b.nm := by split <;> simp [hf]
  rw [ha, hb]; exact hab
theorem set_upd (nm : ByteArray) (f : Pl → Pl) : ∀ {ts : List Pl} {k : Nat} {x : Pl}, Up ts → ts[k]? = some x → x.nm = nm → ts.set k (f x) = updT nm f ts
  | [], k, x, _, h, _ => by simp at h
  | y :: r, 0, x, hu, h, hn => by
    obtain rfl : y = x := by simpa using h
    have e : updT nm f (y :: r) = (if isNameP nm y = true then f y else y) :: updT nm f r := rfl
    rw [e, if_pos (isN_eq.2 hn)]
    have e2 : updT nm f r = r := by
      unfold updT
      conv => rhs; rw [← List.map_id r]
      refine List.map_congr_left (fun p hp => ?_)
      rw [if_neg (by rw [isN_eq]; exact fun e => lt_ne ((List.pairwise_cons.1 hu).1 p hp) (hn.trans e.symm))]; rfl
    rw [e2]; rfl
  | y :: r, k + 1, x, hu, h, hn => by
    have hx : r[k]? = some x := by simpa using h
    have e : updT nm f (y :: r) = (if isNameP nm y = true then f y else y) :: updT nm f r := rfl
    rw [e, if_neg (by rw [isN_eq]; exact fun e => lt_ne ((List.pairwise_cons.1 hu).1 x (List.mem_of_getElem? hx)) (e.trans hn.symm)), List.set_cons_succ, set_upd nm f (List.pairwise_cons.1 hu).2 hx hn]
theorem lk_drop (nm m : ByteArray) : ∀ (ts : List Pl), lk (dropT nm ts) m = if nm = m then none else lk ts m
  | [] => by simp [lk, dropT]
  | x :: r => by
    have ih := lk_drop nm m r
    unfold dropT at ih ⊢
    by_cases hx : x.nm = nm
    · rw [List.filter_cons_of_neg (by rw [isN_eq.2 hx]; simp), ih]
      by_cases h : nm = m
      · rw [if_pos h, if_pos h]
      · rw [if_neg h, if_neg h, lk_cons_ne (fun e => h (hx.symm.trans e))]
    · rw [List.filter_cons_of_pos (by rw [isN_ne hx]; rfl)]
      by_cases hm : x.nm = m
      · rw [lk_cons_eq hm, lk_cons_eq hm, if_neg (fun e => hx (hm.trans e.symm))]
      · rw [lk_cons_ne hm, lk_cons_ne hm, ih]
theorem up_drop (nm : ByteArray) {ts : List Pl} (h : Up ts) : Up (dropT nm ts) := List.Pairwise.filter _ h
theorem erase_drop (nm : ByteArray) : ∀ {ts : List Pl} {k : Nat} {x : Pl}, Up ts → ts[k]? = some x → x.nm = nm → ts.take k ++ ts.drop (k + 1) = dropT nm ts
  | [], k, x, _, h, _ => by simp at h
  | y :: r, 0, x, hu, h, hn => by
    obtain rfl : y = x := by simpa using h
    unfold dropT
    rw [List.filter_cons_of_neg (by rw [isN_eq.2 hn]; simp)]
    have e2 : r.filter (fun p => !isNameP nm p) = r := by
      rw [List.filter_eq_self]
      intro p hp
      rw [isN_ne (fun e => lt_ne ((List.pairwise_cons.1 hu).1 p hp) (hn.trans e.symm))]; rfl
    rw [e2]; rfl
  | y :: r, k + 1, x, hu, h, hn => by
    have hx : r[k]? = some x := by simpa using h
    have ih := erase_drop nm (List.pairwise_cons.1 hu).2 hx hn
    unfold dropT at ih ⊢
    rw [List.filter_cons_of_pos (by rw [isN_ne (fun e => lt_ne ((List.pairwise_cons.1 hu).1 x (List.mem_of_getElem? hx)) (e.trans hn.symm))]; rfl), ← ih]
    rfl
theorem lk_ins (p : Pl) (m : ByteArray) : ∀ (ts : List Pl), lk ts p.nm = none → lk (insP p ts) m = if p.nm = m then some p else lk ts m
  | [], _ => by
    by_cases h : p.nm = m
    · rw [if_pos h]; exact lk_cons_eq h
    · rw [if_neg h]; exact lk_cons_ne h
  | q :: r, hn => by
    have hq : q.nm ≠ p.nm := lk_none.1 hn q (by simp)
    have hr : lk r p.nm = none := lk_none.2 (fun x hx => lk_none.1 hn x (by simp [hx]))
    rw [insP]
    split
    · by_cases h : p.nm = m
      · rw [if_pos h, lk_cons_eq h]
      · rw [if_neg h, lk_cons_ne h]
    · by_cases hm : q.nm = m
      · rw [lk_cons_eq hm, if_neg (fun e => hq (hm.trans e.symm)), lk_cons_eq hm]
      · rw [lk_cons_ne hm, lk_ins p m r hr, lk_cons_ne hm]
theorem up_ins (p : Pl) : ∀ {ts : List Pl}, Up ts → lk ts p.nm = none → Up (insP p ts)
  | [], _, _ => by simp [insP]
  | q :: r, hu, hn => by
    have hq : q.nm ≠ p.nm := lk_none.1 hn q (by simp)
    have hr : lk r p.nm = none := lk_none.2 (fun x hx => lk_none.1 hn x (by simp [hx]))
    obtain ⟨a1, b1⟩ := List.pairwise_cons.1 hu
    rw [insP]
    split
    · rename_i h
      refine List.pairwise_cons.2 ⟨fun x hx => ?_, hu⟩
      rcases List.mem_cons.1 hx with rfl | hx
      · exact h
      · exact lt_trans' h (a1 x hx)
    · rename_i h
      refine List.pairwise_cons.2 ⟨fun x hx => ?_, up_ins p b1 hr⟩
      rcases (insP_mem p x r).1 hx with rfl | hx
      · refine lt_total (by simpa using h) ?_
        cases he : (x.nm.toList == q.nm.toList) with
        | false => rfl
        | true => exact absurd (bytes_eq he).symm hq
      · exact a1 x hx
theorem ins_add {ts : List Pl} (h : Up ts) (p : Pl) : insAll (ts ++ [p]) = insP p ts := by
  rw [insAll_snoc, insAll, ins_all ts [] (by simpa using h)]
  rfl
end Df
end Go.Proofs.YtohbonfngeblkaaGreat
