
import Derived.Test.YthkilnhdhacpaaaRdB
namespace Go.Proofs.Ythkilnhdhacpaaa
open Go.RowKit
namespace Df
open Co Lw

set_option maxRecDepth 20000 in
set_option maxHeartbeats 4000000 in
theorem rWant3 (ba : Int) (ao : Option Addr) (n ac : Nat) (ps : List Pl) (bb : Int) (bo : Option Addr) (m bc : Nat) (qs : List Pl) (w : World) (hr : RowAt w (.slice ao n ac) n (flatP ps)) (hn : ps.length = n) (hn2 : n ≤ 6) (hr2 : RowAt w (.slice bo m bc) m (flatP qs)) (hm : qs.length = m) (hm2 : m ≤ 6) (hpos : ∀ p ∈ qs, 0 ≤ p.sz) :
    Calls Try.prog 21 #[.agg #[.int .i64 ba, .slice ao n ac], .agg #[.int .i64 bb, .slice bo m bc], .int .i64 3] w fun e w' => GaveS w w' (kindL 3 ba ps bb qs) e := by
  obtain ⟨W, hW⟩ : ∃ W, W = (w.alloc (bTab ba (.slice ao n ac))).alloc (bTab bb (.slice bo m bc)) := ⟨_, rfl⟩
  have hbW : Below w.heap.size w W := by rw [hW]; exact nx_trans (nx_alloc _ _) (nx_alloc _ _)
  have HW : Hid (W = (w.alloc (bTab ba (.slice ao n ac))).alloc (bTab bb (.slice bo m bc)) ∧ W.heap[w.heap.size]? = some (bTab ba (.slice ao n ac)) ∧ W.heap[w.heap.size + 1]? = some (bTab bb (.slice bo m bc)) ∧ w.heap.size + 2 = W.heap.size ∧ Below w.heap.size w W) := by
    refine ⟨hW, ?_, ?_, ?_, hbW⟩
    · rw [hW]; exact (heap_alloc_lt _ _ (by simp)).trans (heap_alloc_at _ _ rfl)
    · rw [hW]; exact heap_alloc_at _ _ (by simp)
    · rw [hW]; simp
  have HF := hideIt (fun u (hb : Below W.heap.size W u) name => rWas ba ao n ac name ps u ((hr.nx hbW).nx hb) hn (by unfold maxLen; omega))
  have HG := hideIt (fun u (hb : Below W.heap.size W u) name => rWas bb bo m bc name qs u ((hr2.nx hbW).nx hb) hm (by unfold maxLen; omega))
  have HA : Hid (RowAt W (.slice ao n ac) n (flatP ps) ∧ ps.length = n) := ⟨hr.nx hbW, hn⟩
  have HR : Hid (RowAt W (.slice bo m bc) m (flatP qs) ∧ qs.length = m ∧ ∀ p ∈ qs, 0 ≤ p.sz) := ⟨hr2.nx hbW, hm, hpos⟩
  clear hr hn hr2 hm hpos hW hbW
  go_enter Try.func21, Try.ntmps21
  by_cases hc : bb < ba
  · have HL : Hid (budL 3 ba bb = [⟨3, ⟨#[]⟩, bb⟩]) := by show _ = _; rw [budL, if_pos (by simp [leadsB]; exact hc)]
    go_wp2_with (at_builtin; refine appendG 44 32 3 32 _ info_S Try.underlying32 rfl (by decide) (by decide) rfl (.tmp 36) (.tmp 41) rfl (w.heap.size + 2) _ 0 [] rfl (World.ownsRow_nil _ _ _ _) (some ⟨w.heap.size + 1 + 1, 0, none⟩) 1 1 [.int .i64 3, .string ⟨#[]⟩, .int .i64 bb] rfl rfl (row_new _ [.int .i64 3, .string ⟨#[]⟩, .int .i64 bb] _ 1 (by simp)) (by intro u hu; simp at hu; rcases hu with rfl | rfl | rfl <;> rfl) (fun h => by cases h) (by omega) (by simp; try omega) ?next)
    case next =>
      intro v' U hown6 hb6
      obtain ⟨vo, vc, rfl, _⟩ := own_row hown6
      rw [← HW.out.1] at hb6
      have hBU : Below W.heap.size W U := (nx_alloc W _).trans (by rw [HW.out.2.2.2.1] at hb6; exact hb6)
      obtain ⟨j, hj⟩ : ∃ j, 1 = j := ⟨_, rfl⟩
      have HO : Hid ((budL 3 ba bb).length = j ∧ U.ownsRow (w.heap.size + 2) 44 3 (.slice vo j vc) j (flatT (budL 3 ba bb))) := by
        rw [HL.out, ← hj]
        exact ⟨rfl, hown6⟩
      have HU : Hid (U.heap[w.heap.size]? = some (bTab ba (.slice ao n ac)) ∧ U.heap[w.heap.size + 1]? = some (bTab bb (.slice bo m bc)) ∧ w.heap.size + 2 ≤ U.heap.size ∧ Below W.heap.size W U) := by
        have z := HW.out.2.2.2.1
        exact ⟨(hBU.block _ (by omega)).trans HW.out.2.1, (hBU.block _ (by omega)).trans HW.out.2.2.1, by have := hBU.size; omega, hBU⟩
      clear hown6 hb6 hBU
      have HJ := hideIt hj
      clear hj
      go_wp2_with fail
      go_loopw [7, 11] (fun l i wr => ∃ (k : Nat), k ≤ m ∧ i = .int .i64 k ∧ l = .slice vo j vc ∧ Hid (Below U.heap.size U wr)) (fun _ i _ => m - (intOf i).toNat)
      case atStart => exact ⟨0, Nat.zero_le _, rfl, by rw [← HJ.out], Below.refl _ _⟩
      case round =>
          obtain ⟨k, hk, rfl, rfl, HS⟩ := hrel
          have hra : wr.heap[w.heap.size]? = some (bTab ba (.slice ao n ac)) := (HS.out.block _ (by have := HU.out.2.2.1; omega)).trans HU.out.1
          have hrb : wr.heap[w.heap.size + 1]? = some (bTab bb (.slice bo m bc)) := (HS.out.block _ (by have := HU.out.2.2.1; omega)).trans HU.out.2.1
          have HBU : Hid (Below W.heap.size W wr) := nx_trans HU.out.2.2.2 HS.out
          obtain ⟨b0, b1, bz⟩ := blk2 hrb
          have hzr : w.heap.size + 1 < wr.heap.size := (Array.getElem?_eq_some_iff.1 hrb).1
          by_cases hlt : k < m
          · obtain ⟨⟨x0, x1, x2, x3⟩, hp⟩ : ∃ p, qs[k]? = some p := ⟨_, List.getElem?_eq_getElem (by rw [HR.out.2.1]; exact hlt)⟩
            have hx1 : 0 ≤ x1 := HR.out.2.2 _ (List.mem_of_getElem? hp)
            obtain ⟨bl, off, hao, hbl, c0, c1, c2, c3⟩ := pool_at (HR.out.1.nx HBU.out) hp
            subst hao
            simp only at c0 c1 c2 c3
            have hlti : (k : Int) < (m : Int) := by omega
            obtain ⟨⟨y0, y1, y2, y3⟩, hy⟩ : ∃ y, inP ps x0 = y := ⟨_, rfl⟩
            obtain ⟨inb, hin⟩ : ∃ inb, ps.any (isNameP x0) = inb := ⟨_, rfl⟩
            clear hp
            obtain ⟨W1, hW1⟩ : ∃ W1, W1 = wr.alloc (bPl ⟨x0, x1, x2, x3⟩) := ⟨_, rfl⟩
            have H1 : Hid (W1 = wr.alloc (bPl ⟨x0, x1, x2, x3⟩) ∧ Below wr.heap.size wr W1 ∧ W1.heap[wr.heap.size]? = some (bPl ⟨x0, x1, x2, x3⟩)) := ⟨hW1, by rw [hW1]; exact nx_alloc _ _, by rw [hW1]; exact heap_alloc_at _ _ rfl⟩
            have HF1 := hideIt (HF.out W1 (nx_trans HBU.out H1.out.2.1) x0)
            rw [hy, hin] at HF1
            have a1 : ∀ o, (wr.alloc o).heap[w.heap.size]? = some (bTab ba (.slice ao n ac)) := fun o => (heap_alloc_lt _ _ (by omega)).trans hra
            have a2 := fun o => (blk2 (a1 o)).1
            have a3 := fun o => (blk2 (a1 o)).2.1
            clear hW1 hy hin hra hrb a1
            go_wp2_with fail
            rw [← H1.out.1]
            refine HF1.out.mono ?_; rintro e w2 ⟨rfl, hb2⟩
            have hz1 : wr.heap.size < W1.heap.size := (Array.getElem?_eq_some_iff.1 H1.out.2.2).1
            obtain ⟨d0, d1, d2, d3, dz⟩ := blk4 hb2 hz1 H1.out.2.2
            have hz2 : wr.heap.size < w2.heap.size := Nat.lt_of_lt_of_le hz1 hb2.size
            have HB2 : Hid (Below wr.heap.size wr w2) := nx_trans H1.out.2.1 hb2
            have HSW : Hid (Below U.heap.size U w2) := nx_trans HS.out HB2.out
            clear hb2 a2 a3 c0 c1 c2 c3 b0 b1 bz
            go_wp2_with fail
            go_roundw
            case rel => exact ⟨k + 1, by omega, by go_num, rfl, nx_trans HSW.out (nx_trans (nx_alloc _ _) (nx_alloc _ _))⟩
            case measure => simp [intOf]; omega
          · clear hra hrb
            go_wp2_with fail
            go_ret
            refine ⟨vo, vc, ?_, ?_, own_nilc HO.out.2, nx_trans HW.out.2.2.2.2 HBU.out⟩
            · show Ending.returned _ = Ending.returned (.slice vo (budL 3 ba bb).length vc)
              rw [HO.out.1]
              rfl
            · show RowAt wr (.slice vo (budL 3 ba bb).length vc) (budL 3 ba bb).length (flatT (budL 3 ba bb))
              rw [HO.out.1]
              exact own_row (own_below HO.out.2 HS.out)

  · have HL : Hid (budL 3 ba bb = []) := by show _ = _; rw [budL, if_neg (by simp [leadsB]; omega)]
    obtain ⟨U, hU⟩ : ∃ U, W = U := ⟨_, rfl⟩
    obtain ⟨vo, hvo⟩ : ∃ vo : Option Addr, none = vo := ⟨_, rfl⟩
    obtain ⟨j, hj⟩ : ∃ j : Nat, 0 = j := ⟨_, rfl⟩
    obtain ⟨vc, hvc⟩ : ∃ j : Nat, 0 = j := ⟨_, rfl⟩
    have HO : Hid ((budL 3 ba bb).length = j ∧ U.ownsRow (w.heap.size + 2) 44 3 (.slice vo j vc) j (flatT (budL 3 ba bb))) := by
      rw [HL.out, ← hj, ← hvo, ← hvc]
      exact ⟨rfl, World.ownsRow_nil _ _ _ _⟩
    have HU : Hid (U.heap[w.heap.size]? = some (bTab ba (.slice ao n ac)) ∧ U.heap[w.heap.size + 1]? = some (bTab bb (.slice bo m bc)) ∧ w.heap.size + 2 ≤ U.heap.size ∧ Below W.heap.size W U) := by
      rw [← hU]
      exact ⟨HW.out.2.1, HW.out.2.2.1, Nat.le_of_eq HW.out.2.2.2.1, Below.refl _ _⟩
    have HUU := hideIt (And.intro hU (And.intro hvo (And.intro hj hvc)))
    clear hU hvo hj hvc
    go_wp2_with fail
    rw [← HW.out.1, HUU.out.1]
    go_loopw [7, 11] (fun l i wr => ∃ (k : Nat), k ≤ m ∧ i = .int .i64 k ∧ l = .slice vo j vc ∧ Hid (Below U.heap.size U wr)) (fun _ i _ => m - (intOf i).toNat)
    case atStart => exact ⟨0, Nat.zero_le _, rfl, by rw [← HUU.out.2.1, ← HUU.out.2.2.1, ← HUU.out.2.2.2], Below.refl _ _⟩
    case round =>
        obtain ⟨k, hk, rfl, rfl, HS⟩ := hrel
        have hra : wr.heap[w.heap.size]? = some (bTab ba (.slice ao n ac)) := (HS.out.block _ (by have := HU.out.2.2.1; omega)).trans HU.out.1
        have hrb : wr.heap[w.heap.size + 1]? = some (bTab bb (.slice bo m bc)) := (HS.out.block _ (by have := HU.out.2.2.1; omega)).trans HU.out.2.1
        have HBU : Hid (Below W.heap.size W wr) := nx_trans HU.out.2.2.2 HS.out
        obtain ⟨b0, b1, bz⟩ := blk2 hrb
        have hzr : w.heap.size + 1 < wr.heap.size := (Array.getElem?_eq_some_iff.1 hrb).1
        by_cases hlt : k < m
        · obtain ⟨⟨x0, x1, x2, x3⟩, hp⟩ : ∃ p, qs[k]? = some p := ⟨_, List.getElem?_eq_getElem (by rw [HR.out.2.1]; exact hlt)⟩
          have hx1 : 0 ≤ x1 := HR.out.2.2 _ (List.mem_of_getElem? hp)
          obtain ⟨bl, off, hao, hbl, c0, c1, c2, c3⟩ := pool_at (HR.out.1.nx HBU.out) hp
          subst hao
          simp only at c0 c1 c2 c3
          have hlti : (k : Int) < (m : Int) := by omega
          obtain ⟨⟨y0, y1, y2, y3⟩, hy⟩ : ∃ y, inP ps x0 = y := ⟨_, rfl⟩
          obtain ⟨inb, hin⟩ : ∃ inb, ps.any (isNameP x0) = inb := ⟨_, rfl⟩
          clear hp
          obtain ⟨W1, hW1⟩ : ∃ W1, W1 = wr.alloc (bPl ⟨x0, x1, x2, x3⟩) := ⟨_, rfl⟩
          have H1 : Hid (W1 = wr.alloc (bPl ⟨x0, x1, x2, x3⟩) ∧ Below wr.heap.size wr W1 ∧ W1.heap[wr.heap.size]? = some (bPl ⟨x0, x1, x2, x3⟩)) := ⟨hW1, by rw [hW1]; exact nx_alloc _ _, by rw [hW1]; exact heap_alloc_at _ _ rfl⟩
          have HF1 := hideIt (HF.out W1 (nx_trans HBU.out H1.out.2.1) x0)
          rw [hy, hin] at HF1
          have a1 : ∀ o, (wr.alloc o).heap[w.heap.size]? = some (bTab ba (.slice ao n ac)) := fun o => (heap_alloc_lt _ _ (by omega)).trans hra
          have a2 := fun o => (blk2 (a1 o)).1
          have a3 := fun o => (blk2 (a1 o)).2.1
          clear hW1 hy hin hra hrb a1
          go_wp2_with fail
          rw [← H1.out.1]
          refine HF1.out.mono ?_; rintro e w2 ⟨rfl, hb2⟩
          have hz1 : wr.heap.size < W1.heap.size := (Array.getElem?_eq_some_iff.1 H1.out.2.2).1
          obtain ⟨d0, d1, d2, d3, dz⟩ := blk4 hb2 hz1 H1.out.2.2
          have hz2 : wr.heap.size < w2.heap.size := Nat.lt_of_lt_of_le hz1 hb2.size
          have HB2 : Hid (Below wr.heap.size wr w2) := nx_trans H1.out.2.1 hb2
          have HSW : Hid (Below U.heap.size U w2) := nx_trans HS.out HB2.out
          clear hb2 a2 a3 c0 c1 c2 c3 b0 b1 bz
          go_wp2_with fail
          go_roundw
          case rel => exact ⟨k + 1, by omega, by go_num, rfl, nx_trans HSW.out (nx_trans (nx_alloc _ _) (nx_alloc _ _))⟩
          case measure => simp [intOf]; omega
        · clear hra hrb
          go_wp2_with fail
          go_ret
          refine ⟨vo, vc, ?_, ?_, own_nilc HO.out.2, nx_trans HW.out.2.2.2.2 HBU.out⟩
          · show Ending.returned _ = Ending.returned (.slice vo (budL 3 ba bb).length vc)
            rw [HO.out.1]
            rfl
          · show RowAt wr (.slice vo (budL 3 ba bb).length vc) (budL 3 ba bb).length (flatT (budL 3 ba bb))
            rw [HO.out.1]
            exact own_row (own_below HO.out.2 HS.out)

set_option maxRecDepth 20000 in
set_option maxHeartbeats 4000000 in
theorem rWant7 (ba : Int) (ao : Option Addr) (n ac : Nat) (ps : List Pl) (bb : Int) (bo : Option Addr) (m bc : Nat) (qs : List Pl) (w : World) (hr : RowAt w (.slice ao n ac) n (flatP ps)) (hn : ps.length = n) (hn2 : n ≤ 6) (hr2 : RowAt w (.slice bo m bc) m (flatP qs)) (hm : qs.length = m) (hm2 : m ≤ 6) (hpos : ∀ p ∈ qs, 0 ≤ p.sz) :
    Calls Try.prog 21 #[.agg #[.int .i64 ba, .slice ao n ac], .agg #[.int .i64 bb, .slice bo m bc], .int .i64 7] w fun e w' => GaveS w w' (kindL 7 ba ps bb qs) e := by
  obtain ⟨W, hW⟩ : ∃ W, W = (w.alloc (bTab ba (.slice ao n ac))).alloc (bTab bb (.slice bo m bc)) := ⟨_, rfl⟩
  have hbW : Below w.heap.size w W := by rw [hW]; exact nx_trans (nx_alloc _ _) (nx_alloc _ _)
  have HW : Hid (W = (w.alloc (bTab ba (.slice ao n ac))).alloc (bTab bb (.slice bo m bc)) ∧ W.heap[w.heap.size]? = some (bTab ba (.slice ao n ac)) ∧ W.heap[w.heap.size + 1]? = some (bTab bb (.slice bo m bc)) ∧ w.heap.size + 2 = W.heap.size ∧ Below w.heap.size w W) := by
    refine ⟨hW, ?_, ?_, ?_, hbW⟩
    · rw [hW]; exact (heap_alloc_lt _ _ (by simp)).trans (heap_alloc_at _ _ rfl)
    · rw [hW]; exact heap_alloc_at _ _ (by simp)
    · rw [hW]; simp
  have HF := hideIt (fun u (hb : Below W.heap.size W u) name => rWas ba ao n ac name ps u ((hr.nx hbW).nx hb) hn (by unfold maxLen; omega))
  have HG := hideIt (fun u (hb : Below W.heap.size W u) name => rWas bb bo m bc name qs u ((hr2.nx hbW).nx hb) hm (by unfold maxLen; omega))
  have HA : Hid (RowAt W (.slice ao n ac) n (flatP ps) ∧ ps.length = n) := ⟨hr.nx hbW, hn⟩
  have HR : Hid (RowAt W (.slice bo m bc) m (flatP qs) ∧ qs.length = m ∧ ∀ p ∈ qs, 0 ≤ p.sz) := ⟨hr2.nx hbW, hm, hpos⟩
  clear hr hn hr2 hm hpos hW hbW
  go_enter Try.func21, Try.ntmps21
  by_cases hc : ba < bb
  · have HL : Hid (budL 7 ba bb = [⟨7, ⟨#[]⟩, bb⟩]) := by show _ = _; rw [budL, if_pos (by simp [leadsB]; exact hc)]
    go_wp2_with (at_builtin; refine appendG 44 32 3 32 _ info_S Try.underlying32 rfl (by decide) (by decide) rfl (.tmp 36) (.tmp 41) rfl (w.heap.size + 2) _ 0 [] rfl (World.ownsRow_nil _ _ _ _) (some ⟨w.heap.size + 1 + 1, 0, none⟩) 1 1 [.int .i64 7, .string ⟨#[]⟩, .int .i64 bb] rfl rfl (row_new _ [.int .i64 7, .string ⟨#[]⟩, .int .i64 bb] _ 1 (by simp)) (by intro u hu; simp at hu; rcases hu with rfl | rfl | rfl <;> rfl) (fun h => by cases h) (by omega) (by simp; try omega) ?next)
    case next =>
      intro v' U hown6 hb6
      obtain ⟨vo, vc, rfl, _⟩ := own_row hown6
      rw [← HW.out.1] at hb6
      have hBU : Below W.heap.size W U := (nx_alloc W _).trans (by rw [HW.out.2.2.2.1] at hb6; exact hb6)
      obtain ⟨j, hj⟩ : ∃ j, 1 = j := ⟨_, rfl⟩
      have HO : Hid ((budL 7 ba bb).length = j ∧ U.ownsRow (w.heap.size + 2) 44 3 (.slice vo j vc) j (flatT (budL 7 ba bb))) := by
        rw [HL.out, ← hj]
        exact ⟨rfl, hown6⟩
      have HU : Hid (U.heap[w.heap.size]? = some (bTab ba (.slice ao n ac)) ∧ U.heap[w.heap.size + 1]? = some (bTab bb (.slice bo m bc)) ∧ w.heap.size + 2 ≤ U.heap.size ∧ Below W.heap.size W U) := by
        have z := HW.out.2.2.2.1
        exact ⟨(hBU.block _ (by omega)).trans HW.out.2.1, (hBU.block _ (by omega)).trans HW.out.2.2.1, by have := hBU.size; omega, hBU⟩
      clear hown6 hb6 hBU
      have HJ := hideIt hj
      clear hj
      go_wp2_with fail
      go_loopw [7, 11] (fun l i wr => ∃ (k : Nat), k ≤ m ∧ i = .int .i64 k ∧ l = .slice vo j vc ∧ Hid (Below U.heap.size U wr)) (fun _ i _ => m - (intOf i).toNat)
      case atStart => exact ⟨0, Nat.zero_le _, rfl, by rw [← HJ.out], Below.refl _ _⟩
      case round =>
          obtain ⟨k, hk, rfl, rfl, HS⟩ := hrel
          have hra : wr.heap[w.heap.size]? = some (bTab ba (.slice ao n ac)) := (HS.out.block _ (by have := HU.out.2.2.1; omega)).trans HU.out.1
          have hrb : wr.heap[w.heap.size + 1]? = some (bTab bb (.slice bo m bc)) := (HS.out.block _ (by have := HU.out.2.2.1; omega)).trans HU.out.2.1
          have HBU : Hid (Below W.heap.size W wr) := nx_trans HU.out.2.2.2 HS.out
          obtain ⟨b0, b1, bz⟩ := blk2 hrb
          have hzr : w.heap.size + 1 < wr.heap.size := (Array.getElem?_eq_some_iff.1 hrb).1
          by_cases hlt : k < m
          · obtain ⟨⟨x0, x1, x2, x3⟩, hp⟩ : ∃ p, qs[k]? = some p := ⟨_, List.getElem?_eq_getElem (by rw [HR.out.2.1]; exact hlt)⟩
            have hx1 : 0 ≤ x1 := HR.out.2.2 _ (List.mem_of_getElem? hp)
            obtain ⟨bl, off, hao, hbl, c0, c1, c2, c3⟩ := pool_at (HR.out.1.nx HBU.out) hp
            subst hao
            simp only at c0 c1 c2 c3
            have hlti : (k : Int) < (m : Int) := by omega
            obtain ⟨⟨y0, y1, y2, y3⟩, hy⟩ : ∃ y, inP ps x0 = y := ⟨_, rfl⟩
            obtain ⟨inb, hin⟩ : ∃ inb, ps.any (isNameP x0) = inb := ⟨_, rfl⟩
            clear hp
            obtain ⟨W1, hW1⟩ : ∃ W1, W1 = wr.alloc (bPl ⟨x0, x1, x2, x3⟩) := ⟨_, rfl⟩
            have H1 : Hid (W1 = wr.alloc (bPl ⟨x0, x1, x2, x3⟩) ∧ Below wr.heap.size wr W1 ∧ W1.heap[wr.heap.size]? = some (bPl ⟨x0, x1, x2, x3⟩)) := ⟨hW1, by rw [hW1]; exact nx_alloc _ _, by rw [hW1]; exact heap_alloc_at _ _ rfl⟩
            have HF1 := hideIt (HF.out W1 (nx_trans HBU.out H1.out.2.1) x0)
            rw [hy, hin] at HF1
            have a1 : ∀ o, (wr.alloc o).heap[w.heap.size]? = some (bTab ba (.slice ao n ac)) := fun o => (heap_alloc_lt _ _ (by omega)).trans hra
            have a2 := fun o => (blk2 (a1 o)).1
            have a3 := fun o => (blk2 (a1 o)).2.1
            clear hW1 hy hin hra hrb a1
            go_wp2_with fail
            rw [← H1.out.1]
            refine HF1.out.mono ?_; rintro e w2 ⟨rfl, hb2⟩
            have hz1 : wr.heap.size < W1.heap.size := (Array.getElem?_eq_some_iff.1 H1.out.2.2).1
            obtain ⟨d0, d1, d2, d3, dz⟩ := blk4 hb2 hz1 H1.out.2.2
            have hz2 : wr.heap.size < w2.heap.size := Nat.lt_of_lt_of_le hz1 hb2.size
            have HB2 : Hid (Below wr.heap.size wr w2) := nx_trans H1.out.2.1 hb2
            have HSW : Hid (Below U.heap.size U w2) := nx_trans HS.out HB2.out
            clear hb2 a2 a3 c0 c1 c2 c3 b0 b1 bz
            go_wp2_with fail
            go_roundw
            case rel => exact ⟨k + 1, by omega, by go_num, rfl, nx_trans HSW.out (nx_trans (nx_alloc _ _) (nx_alloc _ _))⟩
            case measure => simp [intOf]; omega
          · clear hra hrb
            go_wp2_with fail
            go_ret
            refine ⟨vo, vc, ?_, ?_, own_nilc HO.out.2, nx_trans HW.out.2.2.2.2 HBU.out⟩
            · show Ending.returned _ = Ending.returned (.slice vo (budL 7 ba bb).length vc)
              rw [HO.out.1]
              rfl
            · show RowAt wr (.slice vo (budL 7 ba bb).length vc) (budL 7 ba bb).length (flatT (budL 7 ba bb))
              rw [HO.out.1]
              exact own_row (own_below HO.out.2 HS.out)

  · have HL : Hid (budL 7 ba bb = []) := by show _ = _; rw [budL, if_neg (by simp [leadsB]; omega)]
    obtain ⟨U, hU⟩ : ∃ U, W = U := ⟨_, rfl⟩
    obtain ⟨vo, hvo⟩ : ∃ vo : Option Addr, none = vo := ⟨_, rfl⟩
    obtain ⟨j, hj⟩ : ∃ j : Nat, 0 = j := ⟨_, rfl⟩
    obtain ⟨vc, hvc⟩ : ∃ j : Nat, 0 = j := ⟨_, rfl⟩
    have HO : Hid ((budL 7 ba bb).length = j ∧ U.ownsRow (w.heap.size + 2) 44 3 (.slice vo j vc) j (flatT (budL 7 ba bb))) := by
      rw [HL.out, ← hj, ← hvo, ← hvc]
      exact ⟨rfl, World.ownsRow_nil _ _ _ _⟩
    have HU : Hid (U.heap[w.heap.size]? = some (bTab ba (.slice ao n ac)) ∧ U.heap[w.heap.size + 1]? = some (bTab bb (.slice bo m bc)) ∧ w.heap.size + 2 ≤ U.heap.size ∧ Below W.heap.size W U) := by
      rw [← hU]
      exact ⟨HW.out.2.1, HW.out.2.2.1, Nat.le_of_eq HW.out.2.2.2.1, Below.refl _ _⟩
    have HUU := hideIt (And.intro hU (And.intro hvo (And.intro hj hvc)))
    clear hU hvo hj hvc
    go_wp2_with fail
    rw [← HW.out.1, HUU.out.1]
    go_loopw [7, 11] (fun l i wr => ∃ (k : Nat), k ≤ m ∧ i = .int .i64 k ∧ l = .slice vo j vc ∧ Hid (Below U.heap.size U wr)) (fun _ i _ => m - (intOf i).toNat)
    case atStart => exact ⟨0, Nat.zero_le _, rfl, by rw [← HUU.out.2.1, ← HUU.out.2.2.1, ← HUU.out.2.2.2], Below.refl _ _⟩
    case round =>
        obtain ⟨k, hk, rfl, rfl, HS⟩ := hrel
        have hra : wr.heap[w.heap.size]? = some (bTab ba (.slice ao n ac)) := (HS.out.block _ (by have := HU.out.2.2.1; omega)).trans HU.out.1
        have hrb : wr.heap[w.heap.size + 1]? = some (bTab bb (.slice bo m bc)) := (HS.out.block _ (by have := HU.out.2.2.1; omega)).trans HU.out.2.1
        have HBU : Hid (Below W.heap.size W wr) := nx_trans HU.out.2.2.2 HS.out
        obtain ⟨b0, b1, bz⟩ := blk2 hrb
        have hzr : w.heap.size + 1 < wr.heap.size := (Array.getElem?_eq_some_iff.1 hrb).1
        by_cases hlt : k < m
        · obtain ⟨⟨x0, x1, x2, x3⟩, hp⟩ : ∃ p, qs[k]? = some p := ⟨_, List.getElem?_eq_getElem (by rw [HR.out.2.1]; exact hlt)⟩
          have hx1 : 0 ≤ x1 := HR.out.2.2 _ (List.mem_of_getElem? hp)
          obtain ⟨bl, off, hao, hbl, c0, c1, c2, c3⟩ := pool_at (HR.out.1.nx HBU.out) hp
          subst hao
          simp only at c0 c1 c2 c3
          have hlti : (k : Int) < (m : Int) := by omega
          obtain ⟨⟨y0, y1, y2, y3⟩, hy⟩ : ∃ y, inP ps x0 = y := ⟨_, rfl⟩
          obtain ⟨inb, hin⟩ : ∃ inb, ps.any (isNameP x0) = inb := ⟨_, rfl⟩
          clear hp
          obtain ⟨W1, hW1⟩ : ∃ W1, W1 = wr.alloc (bPl ⟨x0, x1, x2, x3⟩) := ⟨_, rfl⟩
          have H1 : Hid (W1 = wr.alloc (bPl ⟨x0, x1, x2, x3⟩) ∧ Below wr.heap.size wr W1 ∧ W1.heap[wr.heap.size]? = some (bPl ⟨x0, x1, x2, x3⟩)) := ⟨hW1, by rw [hW1]; exact nx_alloc _ _, by rw [hW1]; exact heap_alloc_at _ _ rfl⟩
          have HF1 := hideIt (HF.out W1 (nx_trans HBU.out H1.out.2.1) x0)
          rw [hy, hin] at HF1
          have a1 : ∀ o, (wr.alloc o).heap[w.heap.size]? = some (bTab ba (.slice ao n ac)) := fun o => (heap_alloc_lt _ _ (by omega)).trans hra
          have a2 := fun o => (blk2 (a1 o)).1
          have a3 := fun o => (blk2 (a1 o)).2.1
          clear hW1 hy hin hra hrb a1
          go_wp2_with fail
          rw [← H1.out.1]
          refine HF1.out.mono ?_; rintro e w2 ⟨rfl, hb2⟩
          have hz1 : wr.heap.size < W1.heap.size := (Array.getElem?_eq_some_iff.1 H1.out.2.2).1
          obtain ⟨d0, d1, d2, d3, dz⟩ := blk4 hb2 hz1 H1.out.2.2
          have hz2 : wr.heap.size < w2.heap.size := Nat.lt_of_lt_of_le hz1 hb2.size
          have HB2 : Hid (Below wr.heap.size wr w2) := nx_trans H1.out.2.1 hb2
          have HSW : Hid (Below U.heap.size U w2) := nx_trans HS.out HB2.out
          clear hb2 a2 a3 c0 c1 c2 c3 b0 b1 bz
          go_wp2_with fail
          go_roundw
          case rel => exact ⟨k + 1, by omega, by go_num, rfl, nx_trans HSW.out (nx_trans (nx_alloc _ _) (nx_alloc _ _))⟩
          case measure => simp [intOf]; omega
        · clear hra hrb
          go_wp2_with fail
          go_ret
          refine ⟨vo, vc, ?_, ?_, own_nilc HO.out.2, nx_trans HW.out.2.2.2.2 HBU.out⟩
          · show Ending.returned _ = Ending.returned (.slice vo (budL 7 ba bb).length vc)
            rw [HO.out.1]
            rfl
          · show RowAt wr (.slice vo (budL 7 ba bb).length vc) (budL 7 ba bb).length (flatT (budL 7 ba bb))
            rw [HO.out.1]
            exact own_row (own_below HO.out.2 HS.out)

end Df
end Go.Proofs.Ythkilnhdhacpaaa
