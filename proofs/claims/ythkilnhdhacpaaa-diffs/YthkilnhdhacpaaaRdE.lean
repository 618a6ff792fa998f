
import Derived.Test.YthkilnhdhacpaaaRdC
import Derived.Test.YthkilnhdhacpaaaRdD
namespace Go.Proofs.Ythkilnhdhacpaaa
open Go.RowKit
namespace Df
open Co Lw

theorem rWanted (i : Nat) (hi : i < 8) (ba : Int) (ao : Option Addr) (n ac : Nat) (ps : List Pl) (bb : Int) (bo : Option Addr) (m bc : Nat) (qs : List Pl) (w : World) (hr : RowAt w (.slice ao n ac) n (flatP ps)) (hn : ps.length = n) (hn2 : n ≤ 6) (hr2 : RowAt w (.slice bo m bc) m (flatP qs)) (hm : qs.length = m) (hm2 : m ≤ 6) (hpos : ∀ p ∈ qs, 0 ≤ p.sz) :
    Calls Try.prog 21 #[.agg #[.int .i64 ba, .slice ao n ac], .agg #[.int .i64 bb, .slice bo m bc], .int .i64 ((i : Int) + 1)] w fun e w' => GaveS w w' (kindL ((i : Int) + 1) ba ps bb qs) e := by
  obtain rfl | rfl | rfl | rfl | rfl | rfl | rfl | rfl : i = 0 ∨ i = 1 ∨ i = 2 ∨ i = 3 ∨ i = 4 ∨ i = 5 ∨ i = 6 ∨ i = 7 := by omega
  · exact rWant1 ba ao n ac ps bb bo m bc qs w hr hn hn2 hr2 hm hm2 hpos
  · exact rWant2 ba ao n ac ps bb bo m bc qs w hr hn hn2 hr2 hm hm2 hpos
  · exact rWant3 ba ao n ac ps bb bo m bc qs w hr hn hn2 hr2 hm hm2 hpos
  · exact rWant4 ba ao n ac ps bb bo m bc qs w hr hn hn2 hr2 hm hm2 hpos
  · exact rWant5 ba ao n ac ps bb bo m bc qs w hr hn hn2 hr2 hm hm2 hpos
  · exact rWant6 ba ao n ac ps bb bo m bc qs w hr hn hn2 hr2 hm hm2 hpos
  · exact rWant7 ba ao n ac ps bb bo m bc qs w hr hn hn2 hr2 hm hm2 hpos
  · exact rWant8 ba ao n ac ps bb bo m bc qs w hr hn hn2 hr2 hm hm2 hpos

set_option maxRecDepth 20000 in
set_option maxHeartbeats 4000000 in
theorem rSteps (ba : Int) (ao : Option Addr) (n ac : Nat) (ps : List Pl) (bb : Int) (bo : Option Addr) (m bc : Nat) (qs : List Pl) (w : World) (hr : RowAt w (.slice ao n ac) n (flatP ps)) (hn : ps.length = n) (hn2 : n ≤ 6) (hr2 : RowAt w (.slice bo m bc) m (flatP qs)) (hm : qs.length = m) (hm2 : m ≤ 6) (hpos : ∀ p ∈ qs, 0 ≤ p.sz) :
    Calls Try.prog 15 #[.agg #[.int .i64 ba, .slice ao n ac], .agg #[.int .i64 bb, .slice bo m bc]] w fun e w' => ∃ vo vc, e = .returned (.slice vo (diffL ba ps bb qs).length vc) ∧ w'.ownsRow w.heap.size 44 3 (.slice vo (diffL ba ps bb qs).length vc) (diffL ba ps bb qs).length (flatT (diffL ba ps bb qs)) ∧ Below w.heap.size w w' := by
  obtain ⟨W, hW⟩ : ∃ W, W = (w.alloc (bTab ba (.slice ao n ac))).alloc (bTab bb (.slice bo m bc)) := ⟨_, rfl⟩
  have hbW : Below w.heap.size w W := by rw [hW]; exact nx_trans (nx_alloc _ _) (nx_alloc _ _)
  have HW : Hid (W = (w.alloc (bTab ba (.slice ao n ac))).alloc (bTab bb (.slice bo m bc)) ∧ W.heap[w.heap.size]? = some (bTab ba (.slice ao n ac)) ∧ W.heap[w.heap.size + 1]? = some (bTab bb (.slice bo m bc)) ∧ w.heap.size + 2 = W.heap.size ∧ Below w.heap.size w W) := by
    refine ⟨hW, ?_, ?_, ?_, hbW⟩
    · rw [hW]; exact (heap_alloc_lt _ _ (by simp)).trans (heap_alloc_at _ _ rfl)
    · rw [hW]; exact heap_alloc_at _ _ (by simp)
    · rw [hW]; simp
  have HC := hideIt (fun (i : Nat) (hi : i < 8) u (hb : Below W.heap.size W u) => rWanted i hi ba ao n ac ps bb bo m bc qs u ((hr.nx hbW).nx hb) hn hn2 ((hr2.nx hbW).nx hb) hm hm2 hpos)
  have HKL := hideIt (fun k => kindL_len k ba ps bb qs (by rw [hn]; exact hn2) (by rw [hm]; exact hm2))
  clear hr hn hr2 hm hpos hW hbW
  go_enter Try.func15, Try.ntmps15
  go_wp2_with fail
  rw [← HW.out.1]
  go_loopw [5, 6] (fun l kd wr => ∃ (i j : Nat) (vo : Option Addr) (vc : Nat), i ≤ 8 ∧ j ≤ 7 * i ∧ kd = .int .i64 ((i : Int) + 1) ∧ l = .slice vo j vc ∧ Hid ((diffTo i ba ps bb qs).length = j ∧ wr.ownsRow W.heap.size 44 3 (.slice vo j vc) j (flatT (diffTo i ba ps bb qs)) ∧ Below W.heap.size W wr)) (fun _ kd _ => 9 - (intOf kd).toNat)
  case atStart => exact ⟨0, 0, none, 0, Nat.zero_le _, Nat.le_refl _, rfl, rfl, rfl, World.ownsRow_nil _ _ _ _, Below.refl _ _⟩
  case round =>
    obtain ⟨i, j, vo, vc, hi, hj, rfl, rfl, HS⟩ := hrel
    have hra : wr.heap[w.heap.size]? = some (bTab ba (.slice ao n ac)) := (HS.out.2.2.block _ (by have := HW.out.2.2.2.1; omega)).trans HW.out.2.1
    have hrb : wr.heap[w.heap.size + 1]? = some (bTab bb (.slice bo m bc)) := (HS.out.2.2.block _ (by have := HW.out.2.2.2.1; omega)).trans HW.out.2.2.1
    obtain ⟨a0, a1, az⟩ := blk2 hra
    obtain ⟨b0, b1, bz⟩ := blk2 hrb
    clear hra hrb
    by_cases hlt : i < 8
    · have hlti : (i : Int) + 1 ≤ 8 := by omega
      have HN := hideIt (diffTo_succ i ba ps bb qs)
      have hkl := HKL.out ((i : Int) + 1)
      go_wp2_with fail
      refine (HC.out i hlt wr HS.out.2.2).mono ?_; rintro e w3 ⟨so, sc, rfl, hrow, hnil, hb3⟩
      obtain ⟨q, hq⟩ : ∃ q, (kindL ((i : Int) + 1) ba ps bb qs).length = q := ⟨_, rfl⟩
      rw [hq] at hrow hkl ⊢
      have HX : Hid ((kindL ((i : Int) + 1) ba ps bb qs).length = q ∧ RowAt w3 (.slice so q sc) q (flatT (kindL ((i : Int) + 1) ba ps bb qs)) ∧ (so = none → sc = 0) ∧ w3.ownsRow W.heap.size 44 3 (.slice vo j vc) j (flatT (diffTo i ba ps bb qs)) ∧ Below W.heap.size W w3) := ⟨hq, hrow, hnil, own_below HS.out.2.1 hb3, nx_trans HS.out.2.2 hb3⟩
      clear hrow hnil hb3 hq a0 a1 az b0 b1 bz
      go_wp2_with (at_builtin; refine appendG 44 32 3 32 _ info_S Try.underlying32 rfl (by decide) (by decide) rfl (.tmp 11) (.tmp 15) rfl W.heap.size _ j (flatT (diffTo i ba ps bb qs)) rfl HX.out.2.2.2.1 so q sc (flatT (kindL ((i : Int) + 1) ba ps bb qs)) rfl (by rw [flatT_len, HX.out.1]) HX.out.2.1 (flatT_one _) HX.out.2.2.1 (by omega) HX.out.2.2.2.2.size ?next)
      case next =>
        intro v' w6 hown6 hb6
        obtain ⟨vo6, vc6, rfl, _⟩ := own_row hown6
        have K6 : Hid ((diffTo (i + 1) ba ps bb qs).length = j + q ∧ w6.ownsRow W.heap.size 44 3 (.slice vo6 (j + q) vc6) (j + q) (flatT (diffTo (i + 1) ba ps bb qs)) ∧ Below W.heap.size W w6) := by
          refine ⟨by rw [HN.out, List.length_append, HS.out.1, HX.out.1], ?_, HX.out.2.2.2.2.trans hb6⟩
          rw [HN.out]
          unfold flatT
          rw [List.flatMap_append]
          exact hown6
        clear hown6 hb6
        go_wp2_with fail
        go_roundw
        case rel => exact ⟨i + 1, j + q, vo6, vc6, by omega, by omega, by go_num, rfl, K6.out⟩
        case measure => simp [intOf]; omega
    · obtain rfl : i = 8 := by omega
      go_wp2_with fail
      go_ret
      refine ⟨vo, vc, ?_, ?_, nx_trans HW.out.2.2.2.2 HS.out.2.2⟩
      · show Ending.returned _ = Ending.returned (.slice vo (diffTo 8 ba ps bb qs).length vc)
        rw [HS.out.1]
        rfl
      · show wr.ownsRow w.heap.size 44 3 (.slice vo (diffTo 8 ba ps bb qs).length vc) (diffTo 8 ba ps bb qs).length (flatT (diffTo 8 ba ps bb qs))
        rw [HS.out.1]
        exact own_mono HS.out.2.1 HW.out.2.2.2.2.size

theorem blk_nx {u v : World} {g : Nat} {o : Obj} (h : u.heap[g]? = some o) (hb : Below u.heap.size u v) : v.heap[g]? = some o := (hb.block g (Array.getElem?_eq_some_iff.1 h).1).trans h

set_option maxRecDepth 20000 in
set_option maxHeartbeats 4000000 in
theorem rDiff (oka okb : Bool) (ba : Int) (ao : Option Addr) (n ac : Nat) (ps : List Pl) (bb : Int) (bo : Option Addr) (m bc : Nat) (qs : List Pl) (w : World) (hr : RowAt w (.slice ao n ac) n (flatP ps)) (hn : ps.length = n) (hn2 : oka = true → n ≤ 6) (hr2 : RowAt w (.slice bo m bc) m (flatP qs)) (hm : qs.length = m) (hm2 : okb = true → m ≤ 6) (hpos : okb = true → ∀ p ∈ qs, 0 ≤ p.sz)
    (hA : ∀ u, Below w.heap.size w u → Calls Try.prog 14 #[.agg #[.int .i64 ba, .slice ao n ac]] u fun e w' => e = .returned (.bool oka) ∧ Below u.heap.size u w')
    (hB : ∀ u, Below w.heap.size w u → Calls Try.prog 14 #[.agg #[.int .i64 bb, .slice bo m bc]] u fun e w' => e = .returned (.bool okb) ∧ Below u.heap.size u w') :
    Calls Try.prog 9 #[.agg #[.int .i64 ba, .slice ao n ac], .agg #[.int .i64 bb, .slice bo m bc]] w fun e w' => GaveD w w' (oka && okb) ba ps bb qs e := by
  obtain ⟨W, hW⟩ : ∃ W, W = (w.alloc (bTab ba (.slice ao n ac))).alloc (bTab bb (.slice bo m bc)) := ⟨_, rfl⟩
  have hbW : Below w.heap.size w W := by rw [hW]; exact nx_trans (nx_alloc _ _) (nx_alloc _ _)
  have HW : Hid (W = (w.alloc (bTab ba (.slice ao n ac))).alloc (bTab bb (.slice bo m bc)) ∧ W.heap[w.heap.size]? = some (bTab ba (.slice ao n ac)) ∧ W.heap[w.heap.size + 1]? = some (bTab bb (.slice bo m bc)) ∧ Below w.heap.size w W) := by
    refine ⟨hW, ?_, ?_, hbW⟩
    · rw [hW]; exact (heap_alloc_lt _ _ (by simp)).trans (heap_alloc_at _ _ rfl)
    · rw [hW]; exact heap_alloc_at _ _ (by simp)
  have HA := hideIt (hA W hbW)
  have HB := hideIt hB
  have HC : Hid (oka = true → okb = true → ∀ u, Below w.heap.size w u → Calls Try.prog 15 #[.agg #[.int .i64 ba, .slice ao n ac], .agg #[.int .i64 bb, .slice bo m bc]] u fun e w' => ∃ vo vc, e = .returned (.slice vo (diffL ba ps bb qs).length vc) ∧ w'.ownsRow u.heap.size 44 3 (.slice vo (diffL ba ps bb qs).length vc) (diffL ba ps bb qs).length (flatT (diffL ba ps bb qs)) ∧ Below u.heap.size u w') :=
    fun h1 h2 u hb => rSteps ba ao n ac ps bb bo m bc qs u (hr.nx hb) hn (hn2 h1) (hr2.nx hb) hm (hm2 h2) (hpos h2)
  clear hr hn hr2 hm hA hB hn2 hm2 hW hbW hpos
  go_enter Try.func9, Try.ntmps9
  go_wp2_with fail
  rw [← HW.out.1]
  refine HA.out.mono ?_; rintro e w1 ⟨rfl, hb1⟩
  have HB1 := hideIt (nx_trans HW.out.2.2.2 hb1)
  have h1a := blk_nx HW.out.2.1 hb1
  have h1b := blk_nx HW.out.2.2.1 hb1
  obtain ⟨a0, a1, az⟩ := blk2 h1a
  obtain ⟨b0, b1, bz⟩ := blk2 h1b
  have HH1 := hideIt (And.intro h1a h1b)
  clear h1a h1b hb1
  go_wp2_with fail
  refine (HB.out w1 HB1.out).mono ?_; rintro e w2 ⟨rfl, hb2⟩
  have HB2 := hideIt (nx_trans HB1.out hb2)
  clear a0 a1 az b0 b1 bz
  cases oka with
  | false =>
    clear hb2
    go_wp2_with fail
    go_ret2
    exact gave_no ba ps bb qs HB2.out
  | true =>
    cases okb with
    | false =>
      clear hb2
      go_wp2_with fail
      go_ret2
      exact gave_no ba ps bb qs HB2.out
    | true =>
      obtain ⟨a0, a1, az⟩ := blk2 (blk_nx HH1.out.1 hb2)
      obtain ⟨b0, b1, bz⟩ := blk2 (blk_nx HH1.out.2 hb2)
      have HC2 := hideIt (HC.out rfl rfl w2 HB2.out)
      clear hb2 HC
      go_wp2_with fail
      refine HC2.out.mono ?_; rintro e w3 ⟨vo, vc, rfl, ho, hb3⟩
      have HG : Hid (GaveD w w3 (true && true) ba ps bb qs (.returned (.tuple #[.slice vo (diffL ba ps bb qs).length vc, .int .i64 0]))) := ⟨vo, vc, rfl, own_mono ho HB2.out.size, nx_trans HB2.out hb3⟩
      clear ho hb3
      go_wp2_with fail
      go_ret2
      exact HG.out
end Df
end Go.Proofs.Ythkilnhdhacpaaa
