import Derived.Test.YtohbonfngeblkaaGreatMnN
import Derived.Test.YtohbonfngeblkaaGreatMnO
import Derived.Laws.OwnMore
import Derived.Lib.OwnKind
import Derived.Deep.AppendLies
namespace Go.Proofs.YtohbonfngeblkaaGreat
open Go.RowKit
namespace Lw
open Co
def keepId (id : Int) (x : Srv) : Bool := !decide (x.id = id)
def keepC (c : Int) (x : Wtr) : Bool := !decide (x.client = c)
set_option maxRecDepth 20000 in
set_option maxHeartbeats 2000000 in
theorem shut_flat (gp : Nat) (b : Int) (po : Option Addr) (n1 pc : Nat) (so : Option Addr) (n2 sc : Nat) (wo : Option Addr) (n3 wc : Nat) (op : Int) (q : WyV) (id : Int) (ss : List Srv) (w : World) (hgp : w.heap[gp]? = some (bDesk b po n1 pc so n2 sc wo n3 wc op q)) (hr : RowAt w (.slice so n2 sc) n2 (flatV ss)) (hn : ss.length = n2) (hq : n2 ≤ 1099511627776) :
    Calls Tryz.prog 69 #[.pointer (some ⟨gp, 0, none⟩), .int .i64 id] w fun e w' => (∃ x, e = .returned x) ∧ ∃ vo vc, w'.heap[gp]? = some (bDesk b po n1 pc vo (ss.filter (keepId id)).length vc wo n3 wc op q) ∧ w'.ownsRow w.heap.size 55 4 (.slice vo (ss.filter (keepId id)).length vc) (ss.filter (keepId id)).length (flatV (ss.filter (keepId id))) ∧ Chg (fun y => y = gp) w w' := by
  have hgplt : gp < w.heap.size := (Array.getElem?_eq_some_iff.1 hgp).1
  have HR : Hid (RowAt w (.slice so n2 sc) n2 (flatV ss) ∧ ss.length = n2 ∧ w.heap[gp]? = some (bDesk b po n1 pc so n2 sc wo n3 wc op q)) := ⟨hr, hn, hgp⟩
  clear hr hn hgp
  go_enter Tryz.func69, Tryz.ntmps69
  go_wp2_with fail
  go_loopw [4, 5] (fun l i wr => ∃ (k m : Nat) (vo : Option Addr) (vc : Nat), k ≤ n2 ∧ m ≤ k ∧ i = .int .i64 k ∧ l = .slice vo m vc ∧ Hid (((ss.take k).filter (keepId id)).length = m ∧ wr.ownsRow w.heap.size 55 4 (.slice vo m vc) m (flatV ((ss.take k).filter (keepId id))) ∧ Below w.heap.size w wr)) (fun _ i _ => n2 - (intOf i).toNat)
  case atStart => exact ⟨0, 0, some ⟨w.heap.size, 0, none⟩, 0, Nat.zero_le _, Nat.le_refl _, rfl, rfl, by simp, made0 w _ 4 _ rfl _ (Nat.le_refl _), nx_alloc _ _⟩
  case round =>
    obtain ⟨k, m, vo, vc, hk, hm, rfl, rfl, HS⟩ := hrel
    have hd : wr.heap[gp]? = some (bDesk b po n1 pc so n2 sc wo n3 wc op q) := (HS.out.2.2.block gp hgplt).trans HR.out.2.2
    obtain ⟨g0, g1, g2, g3, g4, gz⟩ := blk5d hd
    by_cases hlt : k < n2
    · obtain ⟨⟨x0, x1, x2, x3⟩, hp⟩ : ∃ p, ss[k]? = some p := ⟨_, List.getElem?_eq_getElem (by rw [HR.out.2.1]; exact hlt)⟩
      obtain ⟨bl, off, hao, hbl, c0, c1, c2, c3⟩ := sv_at (HR.out.1.nx HS.out.2.2) hp
      subst hao
      simp only at c0 c1 c2 c3
      have hlti : (k : Int) < (n2 : Int) := by omega
      have HNX : Hid ((ss.take (k + 1)).filter (keepId id) = (ss.take k).filter (keepId id) ++ if (keepId id) ⟨x0, x1, x2, x3⟩ = true then [(⟨x0, x1, x2, x3⟩ : Srv)] else []) := by
        obtain ⟨hk', e⟩ := List.getElem?_eq_some_iff.1 hp
        show _ = _
        rw [List.take_succ_eq_append_getElem hk', List.filter_append, e]
        congr 1
        cases hkk : (keepId id) ⟨x0, x1, x2, x3⟩ <;> simp [hkk]
      clear hp hd
      by_cases hc : x0 = id
      · have hcb : (x0 == id) = true := by rw [beq_iff_eq]; exact hc
        have HN : Hid ((ss.take (k + 1)).filter (keepId id) = (ss.take k).filter (keepId id)) := by
          show _ = _
          rw [HNX.out, if_neg (by simp [keepId, hc])]
          simp
        clear hc
        go_wp2_with fail
        go_roundw
        case rel => exact ⟨k + 1, m, vo, vc, by omega, by omega, by go_num, rfl, by rw [HN.out]; exact HS.out⟩
        case measure => simp [intOf]; omega
      · have hcb : (x0 == id) = false := by rw [beq_eq_false_iff_ne]; exact hc
        have HN : Hid ((ss.take (k + 1)).filter (keepId id) = (ss.take k).filter (keepId id) ++ [⟨x0, x1, x2, x3⟩]) := by
          show _ = _
          rw [HNX.out, if_pos (by simp [keepId, hc])]
        clear hc
        go_wp2_with (at_builtin; refine appendG 55 29 4 40 _ info_V Tryz.underlying29 rfl (by decide) (by decide) rfl (.tmp 26) (.tmp 34) rfl w.heap.size _ m (flatV ((ss.take k).filter (keepId id))) rfl (HS.out.2.1.alloc _) (some ⟨wr.heap.size, 0, none⟩) 1 1 [.int .i64 x0, .string x1, .int .i64 x2, .int .i64 x3] rfl rfl (row_new wr [.int .i64 x0, .string x1, .int .i64 x2, .int .i64 x3] _ 1 rfl) (by intro u hu; simp at hu; rcases hu with rfl | rfl | rfl | rfl <;> rfl) (fun h => by cases h) (by omega) (by simp; have := HS.out.2.2.size; omega) ?next)
        case next =>
          intro v' w6 hown6 hb6
          obtain ⟨vo6, vc6, rfl, _⟩ := own_row hown6
          have K6 : Hid (((ss.take (k + 1)).filter (keepId id)).length = m + 1 ∧ w6.ownsRow w.heap.size 55 4 (.slice vo6 (m + 1) vc6) (m + 1) (flatV ((ss.take (k + 1)).filter (keepId id))) ∧ Below w.heap.size w w6) := by
            refine ⟨by rw [HN.out]; simp [HS.out.1], ?_, (HS.out.2.2.alloc HS.out.2.2.size _).trans hb6⟩
            rw [HN.out]
            unfold flatV
            rw [List.flatMap_append]
            exact hown6
          clear hown6 hb6 g0 g1 g2 g3 g4 gz
          go_wp2_with fail
          go_roundw
          case rel => exact ⟨k + 1, m + 1, vo6, vc6, by omega, by omega, by go_num, rfl, K6.out⟩
          case measure => simp [intOf]; omega
    · have HE : Hid ((ss.filter (keepId id)).length = m ∧ wr.ownsRow w.heap.size 55 4 (.slice vo m vc) m (flatV (ss.filter (keepId id))) ∧ Below w.heap.size w wr ∧ wr.heap[gp]? = some (bDesk b po n1 pc so n2 sc wo n3 wc op q)) := by
        have ht : ss.take k = ss := List.take_of_length_le (by rw [HR.out.2.1]; omega)
        have := HS.out
        rw [ht] at this
        exact ⟨this.1, this.2.1, this.2.2, hd⟩
      clear hd
      go_wp2_with fail
      refine bodyPost_end (v := .tuple #[]) (by simp [results, Tryz.results69, go_sem]) rfl ?_
      refine ⟨⟨_, rfl⟩, vo, vc, ?_, ?_, ?_⟩
      · rw [HE.out.1]; exact set_heap _ _ _ _ _ _ HE.out.2.2.2
      · rw [HE.out.1]; exact ownG_heap HE.out.2.1 (fun j hj => Below.heap_setCell _ _ _ _ (by show j ≠ gp; have := (HE.out.2.1.lt j hj).1; omega))
      · exact (Chg.of_below HE.out.2.2.1).trans (Chg.set (F := fun y => y = gp) wr gp 2 _ rfl) (fun y hy => .inl hy)
set_option maxRecDepth 20000 in
set_option maxHeartbeats 2000000 in
theorem quit_flat (gp : Nat) (b : Int) (po : Option Addr) (n1 pc : Nat) (so : Option Addr) (n2 sc : Nat) (wo : Option Addr) (n3 wc : Nat) (op : Int) (q : WyV) (c : Int) (ws : List Wtr) (w : World) (hgp : w.heap[gp]? = some (bDesk b po n1 pc so n2 sc wo n3 wc op q)) (hr : RowAt w (.slice wo n3 wc) n3 (flatW ws)) (hn : ws.length = n3) (hq : n3 ≤ 1099511627776) :
    Calls Tryz.prog 82 #[.pointer (some ⟨gp, 0, none⟩), .int .i64 c] w fun e w' => (∃ x, e = .returned x) ∧ ∃ vo vc, w'.heap[gp]? = some (bDesk b po n1 pc so n2 sc vo (ws.filter (keepC c)).length vc op q) ∧ w'.ownsRow w.heap.size 61 2 (.slice vo (ws.filter (keepC c)).length vc) (ws.filter (keepC c)).length (flatW (ws.filter (keepC c))) ∧ Chg (fun y => y = gp) w w' := by
  have hgplt : gp < w.heap.size := (Array.getElem?_eq_some_iff.1 hgp).1
  have HR : Hid (RowAt w (.slice wo n3 wc) n3 (flatW ws) ∧ ws.length = n3 ∧ w.heap[gp]? = some (bDesk b po n1 pc so n2 sc wo n3 wc op q)) := ⟨hr, hn, hgp⟩
  clear hr hn hgp
  go_enter Tryz.func82, Tryz.ntmps82
  go_wp2_with fail
  go_loopw [4, 5] (fun l i wr => ∃ (k m : Nat) (vo : Option Addr) (vc : Nat), k ≤ n3 ∧ m ≤ k ∧ i = .int .i64 k ∧ l = .slice vo m vc ∧ Hid (((ws.take k).filter (keepC c)).length = m ∧ wr.ownsRow w.heap.size 61 2 (.slice vo m vc) m (flatW ((ws.take k).filter (keepC c))) ∧ Below w.heap.size w wr)) (fun _ i _ => n3 - (intOf i).toNat)
  case atStart => exact ⟨0, 0, some ⟨w.heap.size, 0, none⟩, 0, Nat.zero_le _, Nat.le_refl _, rfl, rfl, by simp, made0 w _ 2 _ rfl _ (Nat.le_refl _), nx_alloc _ _⟩
  case round =>
    obtain ⟨k, m, vo, vc, hk, hm, rfl, rfl, HS⟩ := hrel
    have hd : wr.heap[gp]? = some (bDesk b po n1 pc so n2 sc wo n3 wc op q) := (HS.out.2.2.block gp hgplt).trans HR.out.2.2
    obtain ⟨g0, g1, g2, g3, g4, gz⟩ := blk5d hd
    by_cases hlt : k < n3
    · obtain ⟨⟨x0, x1⟩, hp⟩ : ∃ p, ws[k]? = some p := ⟨_, List.getElem?_eq_getElem (by rw [HR.out.2.1]; exact hlt)⟩
      obtain ⟨bl, off, hao, hbl, c0, c1⟩ := wt_at (HR.out.1.nx HS.out.2.2) hp
      subst hao
      simp only at c0 c1
      have hlti : (k : Int) < (n3 : Int) := by omega
      have HNX : Hid ((ws.take (k + 1)).filter (keepC c) = (ws.take k).filter (keepC c) ++ if (keepC c) ⟨x0, x1⟩ = true then [(⟨x0, x1⟩ : Wtr)] else []) := by
        obtain ⟨hk', e⟩ := List.getElem?_eq_some_iff.1 hp
        show _ = _
        rw [List.take_succ_eq_append_getElem hk', List.filter_append, e]
        congr 1
        cases hkk : (keepC c) ⟨x0, x1⟩ <;> simp [hkk]
      clear hp hd
      by_cases hc : x0 = c
      · have hcb : (x0 == c) = true := by rw [beq_iff_eq]; exact hc
        have HN : Hid ((ws.take (k + 1)).filter (keepC c) = (ws.take k).filter (keepC c)) := by
          show _ = _
          rw [HNX.out, if_neg (by simp [keepC, hc])]
          simp
        clear hc
        go_wp2_with fail
        go_roundw
        case rel => exact ⟨k + 1, m, vo, vc, by omega, by omega, by go_num, rfl, by rw [HN.out]; exact HS.out⟩
        case measure => simp [intOf]; omega
      · have hcb : (x0 == c) = false := by rw [beq_eq_false_iff_ne]; exact hc
        have HN : Hid ((ws.take (k + 1)).filter (keepC c) = (ws.take k).filter (keepC c) ++ [⟨x0, x1⟩]) := by
          show _ = _
          rw [HNX.out, if_pos (by simp [keepC, hc])]
        clear hc
        go_wp2_with (at_builtin; refine appendG 61 30 2 24 _ info_W Tryz.underlying30 rfl (by decide) (by decide) rfl (.tmp 26) (.tmp 34) rfl w.heap.size _ m (flatW ((ws.take k).filter (keepC c))) rfl (HS.out.2.1.alloc _) (some ⟨wr.heap.size, 0, none⟩) 1 1 [.int .i64 x0, .string x1] rfl rfl (row_new wr [.int .i64 x0, .string x1] _ 1 rfl) (by intro u hu; simp at hu; rcases hu with rfl | rfl <;> rfl) (fun h => by cases h) (by omega) (by simp; have := HS.out.2.2.size; omega) ?next)
        case next =>
          intro v' w6 hown6 hb6
          obtain ⟨vo6, vc6, rfl, _⟩ := own_row hown6
          have K6 : Hid (((ws.take (k + 1)).filter (keepC c)).length = m + 1 ∧ w6.ownsRow w.heap.size 61 2 (.slice vo6 (m + 1) vc6) (m + 1) (flatW ((ws.take (k + 1)).filter (keepC c))) ∧ Below w.heap.size w w6) := by
            refine ⟨by rw [HN.out]; simp [HS.out.1], ?_, (HS.out.2.2.alloc HS.out.2.2.size _).trans hb6⟩
            rw [HN.out]
            unfold flatW
            rw [List.flatMap_append]
            exact hown6
          clear hown6 hb6 g0 g1 g2 g3 g4 gz
          go_wp2_with fail
          go_roundw
          case rel => exact ⟨k + 1, m + 1, vo6, vc6, by omega, by omega, by go_num, rfl, K6.out⟩
          case measure => simp [intOf]; omega
    · have HE : Hid ((ws.filter (keepC c)).length = m ∧ wr.ownsRow w.heap.size 61 2 (.slice vo m vc) m (flatW (ws.filter (keepC c))) ∧ Below w.heap.size w wr ∧ wr.heap[gp]? = some (bDesk b po n1 pc so n2 sc wo n3 wc op q)) := by
        have ht : ws.take k = ws := List.take_of_length_le (by rw [HR.out.2.1]; omega)
        have := HS.out
        rw [ht] at this
        exact ⟨this.1, this.2.1, this.2.2, hd⟩
      clear hd
      go_wp2_with fail
      refine bodyPost_end (v := .tuple #[]) (by simp [results, Tryz.results82, go_sem]) rfl ?_
      refine ⟨⟨_, rfl⟩, vo, vc, ?_, ?_, ?_⟩
      · rw [HE.out.1]; exact set_heap _ _ _ _ _ _ HE.out.2.2.2
      · rw [HE.out.1]; exact ownG_heap HE.out.2.1 (fun j hj => Below.heap_setCell _ _ _ _ (by show j ≠ gp; have := (HE.out.2.1.lt j hj).1; omega))
      · exact (Chg.of_below HE.out.2.2.1).trans (Chg.set (F := fun y => y = gp) wr gp 3 _ rfl) (fun y hy => .inl hy)
set_option maxRecDepth 20000 in
set_option maxHeartbeats 2000000 in
theorem cServersOf (so : Option Addr) (n2 sc : Nat) (pool : ByteArray) (ss : List Srv) (w : World) (hr : RowAt w (.slice so n2 sc) n2 (flatV ss)) (hn : ss.length = n2) (hq : n2 ≤ 1099511627776) :
    Calls Tryz.prog 118 #[.slice so n2 sc, .string pool] w fun e w' => ∃ vo vc, e = .returned (.slice vo (ss.filter (isPoolV pool)).length vc) ∧ w'.ownsRow w.heap.size 55 4 (.slice vo (ss.filter (isPoolV pool)).length vc) (ss.filter (isPoolV pool)).length (flatV (ss.filter (isPoolV pool))) ∧ Below w.heap.size w w' := by
  have HR : Hid (RowAt w (.slice so n2 sc) n2 (flatV ss) ∧ ss.length = n2) := ⟨hr, hn⟩
  clear hr hn
  go_enter Tryz.func118, Tryz.ntmps118
  go_wp2_with fail
  go_loopw [5, 6] (fun l i wr => ∃ (k m : Nat) (vo : Option Addr) (vc : Nat), k ≤ n2 ∧ m ≤ k ∧ i = .int .i64 k ∧ l = .slice vo m vc ∧ Hid (((ss.take k).filter (isPoolV pool)).length = m ∧ wr.ownsRow w.heap.size 55 4 (.slice vo m vc) m (flatV ((ss.take k).filter (isPoolV pool))) ∧ Below w.heap.size w wr)) (fun _ i _ => n2 - (intOf i).toNat)
  case atStart => exact ⟨0, 0, some ⟨w.heap.size, 0, none⟩, 0, Nat.zero_le _, Nat.le_refl _, rfl, rfl, by simp, made0 w _ 4 _ rfl _ (Nat.le_refl _), nx_alloc _ _⟩
  case round =>
    obtain ⟨k, m, vo, vc, hk, hm, rfl, rfl, HS⟩ := hrel
    by_cases hlt : k < n2
    · obtain ⟨⟨x0, x1, x2, x3⟩, hp⟩ : ∃ p, ss[k]? = some p := ⟨_, List.getElem?_eq_getElem (by rw [HR.out.2]; exact hlt)⟩
      obtain ⟨bl, off, hao, hbl, c0, c1, c2, c3⟩ := sv_at (HR.out.1.nx HS.out.2.2) hp
      subst hao
      simp only at c0 c1 c2 c3
      have hlti : (k : Int) < (n2 : Int) := by omega
      have HNX : Hid ((ss.take (k + 1)).filter (isPoolV pool) = (ss.take k).filter (isPoolV pool) ++ if (isPoolV pool) ⟨x0, x1, x2, x3⟩ = true then [(⟨x0, x1, x2, x3⟩ : Srv)] else []) := by
        obtain ⟨hk', e⟩ := List.getElem?_eq_some_iff.1 hp
        show _ = _
        rw [List.take_succ_eq_append_getElem hk', List.filter_append, e]
        congr 1
        cases hkk : (isPoolV pool) ⟨x0, x1, x2, x3⟩ <;> simp [hkk]
      clear hp
      cases hcb : (x1.toList == pool.toList) with
      | false =>
        have HN : Hid ((ss.take (k + 1)).filter (isPoolV pool) = (ss.take k).filter (isPoolV pool)) := by
          show _ = _
          have hq' : ¬ (isPoolV pool) ⟨x0, x1, x2, x3⟩ = true := fun h => by rw [show (isPoolV pool) ⟨x0, x1, x2, x3⟩ = (x1.toList == pool.toList) from rfl, hcb] at h; simp at h
          rw [HNX.out, if_neg hq']
          simp
        go_wp2_with fail
        go_roundw
        case rel => exact ⟨k + 1, m, vo, vc, by omega, by omega, by go_num, rfl, by rw [HN.out]; exact HS.out⟩
        case measure => simp [intOf]; omega
      | true =>
        have HN : Hid ((ss.take (k + 1)).filter (isPoolV pool) = (ss.take k).filter (isPoolV pool) ++ [⟨x0, x1, x2, x3⟩]) := by
          show _ = _
          have hq' : (isPoolV pool) ⟨x0, x1, x2, x3⟩ = true := hcb
          rw [HNX.out, if_pos hq']
        go_wp2_with (at_builtin; refine appendG 55 29 4 40 _ info_V Tryz.underlying29 rfl (by decide) (by decide) rfl (.tmp 21) (.tmp 26) rfl w.heap.size _ m (flatV ((ss.take k).filter (isPoolV pool))) rfl (HS.out.2.1.alloc _) (some ⟨wr.heap.size, 0, none⟩) 1 1 [.int .i64 x0, .string x1, .int .i64 x2, .int .i64 x3] rfl rfl (row_new wr [.int .i64 x0, .string x1, .int .i64 x2, .int .i64 x3] _ 1 rfl) (by intro u hu; simp at hu; rcases hu with rfl | rfl | rfl | rfl <;> rfl) (fun h => by cases h) (by omega) (by simp; have := HS.out.2.2.size; omega) ?next)
        case next =>
          intro v' w6 hown6 hb6
          obtain ⟨vo6, vc6, rfl, _⟩ := own_row hown6
          have K6 : Hid (((ss.take (k + 1)).filter (isPoolV pool)).length = m + 1 ∧ w6.ownsRow w.heap.size 55 4 (.slice vo6 (m + 1) vc6) (m + 1) (flatV ((ss.take (k + 1)).filter (isPoolV pool))) ∧ Below w.heap.size w w6) := by
            refine ⟨by rw [HN.out]; simp [HS.out.1], ?_, (HS.out.2.2.alloc HS.out.2.2.size _).trans hb6⟩
            rw [HN.out]
            unfold flatV
            rw [List.flatMap_append]
            exact hown6
          clear hown6 hb6
          go_wp2_with fail
          go_roundw
          case rel => exact ⟨k + 1, m + 1, vo6, vc6, by omega, by omega, by go_num, rfl, K6.out⟩
          case measure => simp [intOf]; omega
    · have HE : Hid ((ss.filter (isPoolV pool)).length = m ∧ wr.ownsRow w.heap.size 55 4 (.slice vo m vc) m (flatV (ss.filter (isPoolV pool))) ∧ Below w.heap.size w wr) := by
        have ht : ss.take k = ss := List.take_of_length_le (by rw [HR.out.2]; omega)
        have := HS.out
        rw [ht] at this
        exact this
      go_wp2_with fail
      go_ret
      refine ⟨vo, vc, ?_, ?_, HE.out.2.2⟩
      · rw [HE.out.1]; rfl
      · rw [HE.out.1]; exact HE.out.2.1
theorem cCountOf (so : Option Addr) (n2 sc : Nat) (pool : ByteArray) (ss : List Srv) (w : World) (hr : RowAt w (.slice so n2 sc) n2 (flatV ss)) (hn : ss.length = n2) (hq : n2 ≤ 1099511627776) :
    Calls Tryz.prog 101 #[.slice so n2 sc, .string pool] w fun e w' => e = .returned (.int .i64 (cntG (isPoolV pool) ss : Int)) ∧ Below w.heap.size w w' := by
  have HC := hideIt (cServersOf so n2 sc pool ss w hr hn hq)
  have hle : (ss.filter (isPoolV pool)).length ≤ n2 := by rw [← hn]; exact List.length_filter_le _ _
  clear hr hn
  go_enter Tryz.func101, Tryz.ntmps101
  go_wp2_with fail
  refine HC.out.mono ?_
  rintro e w1 ⟨vo, vc, rfl, ho, hb⟩
  have K := hideIt hb
  clear ho hb HC
  go_wp2_with fail
  go_ret
  exact ⟨rfl, K.out⟩
theorem cFirstIdleOf (so : Option Addr) (n2 sc : Nat) (pool : ByteArray) (ss : List Srv) (w : World) (hr : RowAt w (.slice so n2 sc) n2 (flatV ss)) (hn : ss.length = n2) (hq : n2 ≤ 1099511627776) :
    Calls Tryz.prog 125 #[.slice so n2 sc, .string pool] w fun e w' => e = .returned (svA (orS (ss.find? (fun s => isPoolV pool s && isCliV 0 s)))) ∧ Below w.heap.size w w' := by
  have HC := hideIt (cServersOf so n2 sc pool ss (w.alloc (.cells #[.int .i64 0, .string ⟨#[]⟩, .int .i64 0, .int .i64 0] 55)) (hr.nx (nx_alloc _ _)) hn hq)
  have hle : (ss.filter (isPoolV pool)).length ≤ n2 := by rw [← hn]; exact List.length_filter_le _ _
  clear hr hn
  go_enter Tryz.func125, Tryz.ntmps125
  go_wp2_with fail
  refine HC.out.mono ?_
  rintro e w1 ⟨vo, vc, rfl, ho, hb⟩
  have HI := hideIt (cFirstIdle vo (ss.filter (isPoolV pool)).length vc (ss.filter (isPoolV pool)) w1 (own_row ho) rfl (by unfold maxLen; omega))
  have K : Hid (w1.heap[w.heap.size]? = some (.cells #[.int .i64 0, .string ⟨#[]⟩, .int .i64 0, .int .i64 0] 55) ∧ Below w.heap.size w w1 ∧ w.heap.size < w1.heap.size) := ⟨(hb.block _ (by simp)).trans (heap_alloc_at _ _ rfl), nx_trans (nx_alloc _ _) hb, Nat.lt_of_lt_of_le (by simp) hb.size⟩
  clear ho hb HC
  go_wp2_with fail
  refine HI.out.mono ?_
  rintro e w2 ⟨rfl, hb⟩
  obtain ⟨⟨x0, x1, x2, x3⟩, hx⟩ : ∃ x, orS ((ss.filter (isPoolV pool)).find? (isCliV 0)) = x := ⟨_, rfl⟩
  rw [hx]
  have HX : Hid (orS (ss.find? (fun s => isPoolV pool s && isCliV 0 s)) = ⟨x0, x1, x2, x3⟩) := by
    show _ = _
    rw [← hx, List.find?_filter]
    refine congrArg (fun p => orS (List.find? p ss)) (funext fun s => ?_)
    cases isPoolV pool s <;> cases isCliV 0 s <;> rfl
  obtain ⟨y0, y1, y2, y3, yz⟩ := blk4 hb (g := w.heap.size) K.out.2.2 K.out.1
  have KB : Hid (Below w.heap.size w w2) := nx_trans K.out.2.1 hb
  clear hb hx HI
  go_wp2_with fail
  refine bodyPost_ret (v := svA ⟨x0, x1, x2, x3⟩) (by simp [results, Tryz.results125, go_sem, y0, y1, y2, y3]) rfl ⟨by rw [HX.out], ?_⟩
  have hg : w.heap.size ≤ w.heap.size := Nat.le_refl _
  exact (((KB.out.setCell hg _).setCell hg _).setCell hg _).setCell hg _
end Lw
end Go.Proofs.YtohbonfngeblkaaGreat
namespace Go.Proofs.YtohbonfngeblkaaGreat
open Go.RowKit
namespace Lw
open Co
def handed (id c : Int) (x : Srv) : Srv := if x.id = id then { x with client := c } else x
def handTo (id c : Int) (ss : List Srv) (k : Nat) : List Srv := (ss.take k).map (handed id c) ++ ss.drop k
theorem flatV_set : ∀ (l : List Srv) (i : Nat) (x : Srv) (c : Int), l[i]? = some x → (flatV l).set (i * 4 + 3) (.int .i64 c) = flatV (l.set i { x with client := c })
  | [], i, x, c, h => by simp at h
  | y :: l, 0, x, c, h => by
    obtain rfl : y = x := by simpa using h
    rfl
  | y :: l, i + 1, x, c, h => by
    have ih := flatV_set l i x c (by simpa using h)
    have e : (i + 1) * 4 + 3 = (i * 4 + 3) + 1 + 1 + 1 + 1 := by omega
    rw [e]
    show fSv y ++ (flatV l).set (i * 4 + 3) (.int .i64 c) = fSv y ++ flatV (l.set i { x with client := c })
    rw [ih]
theorem handTo_at {ss : List Srv} {k : Nat} {x : Srv} (id c : Int) (h : ss[k]? = some x) : (handTo id c ss k)[k]? = some x ∧ handTo id c ss (k + 1) = (handTo id c ss k).set k (handed id c x) := by
  obtain ⟨hk, e⟩ := List.getElem?_eq_some_iff.1 h
  have hl : ((ss.take k).map (handed id c)).length = k := by simp; omega
  have hd : ss.drop k = x :: ss.drop (k + 1) := by rw [List.drop_eq_getElem_cons hk, e]
  unfold handTo
  constructor
  · rw [List.getElem?_append_right (by omega), hl, hd]; simp
  · rw [List.set_append_right _ _ (by omega), hl, hd, List.take_succ_eq_append_getElem hk, e]
    simp
theorem handTo_len (id c : Int) (ss : List Srv) (k : Nat) : (handTo id c ss k).length = ss.length := by
  simp [handTo]; omega
set_option maxRecDepth 20000 in
set_option maxHeartbeats 2000000 in
theorem hand_flat (B gp : Nat) (b : Int) (po : Option Addr) (n1 pc : Nat) (so : Option Addr) (n2 sc : Nat) (wo : Option Addr) (n3 wc : Nat) (op : Int) (q : WyV) (id c : Int) (ss : List Srv) (w : World) (hgp : w.heap[gp]? = some (bDesk b po n1 pc so n2 sc wo n3 wc op q)) (hr : w.ownsRow B 55 4 (.slice so n2 sc) n2 (flatV ss)) (hn : ss.length = n2) (hq : n2 ≤ 1099511627776) :
    Calls Tryz.prog 83 #[.pointer (some ⟨gp, 0, none⟩), .int .i64 id, .int .i64 c] w fun e w' => (∃ x, e = .returned x) ∧ w'.heap[gp]? = some (bDesk b po n1 pc so n2 sc wo n3 wc op q) ∧ w'.ownsRow B 55 4 (.slice so n2 sc) n2 (flatV (ss.map (handed id c))) ∧ Chg (fun y => (Value.slice so n2 sc).ownBlock = some y) w w' := by
  have HR : Hid (w.ownsRow B 55 4 (.slice so n2 sc) n2 (flatV ss) ∧ ss.length = n2 ∧ w.heap[gp]? = some (bDesk b po n1 pc so n2 sc wo n3 wc op q)) := ⟨hr, hn, hgp⟩
  clear hr hn hgp
  go_enter Tryz.func83, Tryz.ntmps83
  go_wp2_with fail
  go_loopw [6] (fun i wr => ∃ (k : Nat), k ≤ n2 ∧ i = .int .i64 k ∧ Hid (wr.heap[gp]? = some (bDesk b po n1 pc so n2 sc wo n3 wc op q) ∧ wr.ownsRow B 55 4 (.slice so n2 sc) n2 (flatV (handTo id c ss k)) ∧ Chg (fun y => (Value.slice so n2 sc).ownBlock = some y) w wr)) (fun i _ => n2 - (intOf i).toNat)
  case atStart => exact ⟨0, Nat.zero_le _, rfl, HR.out.2.2, by simpa [handTo] using HR.out.1, Chg.refl _ _⟩
  case round =>
    obtain ⟨k, hk, rfl, HS⟩ := hrel
    have hd := HS.out.1
    obtain ⟨g0, g1, g2, g3, g4, gz⟩ := blk5d hd
    by_cases hlt : k < n2
    · obtain ⟨⟨x0, x1, x2, x3⟩, hp⟩ : ∃ p, ss[k]? = some p := ⟨_, List.getElem?_eq_getElem (by rw [HR.out.2.1]; exact hlt)⟩
      have HA := handTo_at id c hp
      obtain ⟨bl, off, hao, hbl, c0, c1, c2, c3⟩ := sv_at (own_row HS.out.2.1) HA.1
      subst hao
      have HO : Hid (off = 0 ∧ gp ≠ bl) := by
        refine ⟨?_, ?_⟩
        · rcases HS.out.2.1.2 with ⟨h', _⟩ | ⟨g', cap', cur, h', _⟩
          · simp at h'
          · simp at h'; exact h'.1.2
        · intro e
          obtain ⟨cc, fz, hh⟩ := Go.Lib.ownsRow_kind HS.out.2.1 bl rfl
          rw [← e, HS.out.1] at hh
          simp [bDesk] at hh
      have hz : ∀ a, wr.frozen? ⟨bl, a, none⟩ = false := by
        have h := HS.out.2.1
        rw [HO.out.1] at h
        exact fun a => h.frozenAt a
      simp only at c0 c1 c2 c3
      have hlti : (k : Int) < (n2 : Int) := by omega
      have HB : Hid ((handTo id c ss k)[k]? = some ⟨x0, x1, x2, x3⟩ ∧ handTo id c ss (k + 1) = (handTo id c ss k).set k (handed id c ⟨x0, x1, x2, x3⟩)) := HA
      clear hp hd HA
      by_cases hc : x0 = id
      · have hcb : (x0 == id) = true := by rw [beq_iff_eq]; exact hc
        have HC : Hid (x0 = id) := hc
        clear hc
        go_wp2_with fail
        go_roundw
        case rel =>
          refine ⟨k + 1, by omega, by go_num, ?_, ?_, ?_⟩
          · exact (Below.heap_setCell _ _ _ _ HO.out.2).trans HS.out.1
          · have h := HS.out.2.1
            have e := HO.out.1
            subst e
            rw [HB.out.2, handed, if_pos HC.out, ← flatV_set _ _ _ _ HB.out.1]
            have := (h.stored (k * 4 + 3) (.int .i64 c)).1
            simpa using this
          · exact HS.out.2.2.trans (Chg.set (F := fun y => y = bl) wr bl _ _ rfl) (fun y hy => .inl (by rw [hy]; rfl))
        case measure => simp [intOf]; omega
      · have hcb : (x0 == id) = false := by rw [beq_eq_false_iff_ne]; exact hc
        have HC : Hid (¬ x0 = id) := hc
        clear hc
        go_wp2_with fail
        go_roundw
        case rel =>
          refine ⟨k + 1, by omega, by go_num, HS.out.1, ?_, HS.out.2.2⟩
          rw [HB.out.2, handed, if_neg HC.out]
          have : (handTo id c ss k).set k ⟨x0, x1, x2, x3⟩ = handTo id c ss k := by
            obtain ⟨hk', e⟩ := List.getElem?_eq_some_iff.1 HB.out.1
            rw [← e]; exact List.set_getElem_self hk'
          rw [this]
          exact HS.out.2.1
        case measure => simp [intOf]; omega
    · have HE : handTo id c ss k = ss.map (handed id c) := by
        have ht : ss.take k = ss := List.take_of_length_le (by rw [HR.out.2.1]; omega)
        have h2 : ss.drop k = [] := List.drop_eq_nil_of_le (by rw [HR.out.2.1]; omega)
        unfold handTo
        rw [ht, h2, List.append_nil]
      have HF : Hid (wr.heap[gp]? = some (bDesk b po n1 pc so n2 sc wo n3 wc op q) ∧ wr.ownsRow B 55 4 (.slice so n2 sc) n2 (flatV (ss.map (handed id c))) ∧ Chg (fun y => (Value.slice so n2 sc).ownBlock = some y) w wr) := by
        rw [← HE]; exact HS.out
      clear hd HE
      go_wp2_with fail
      refine bodyPost_end (v := .tuple #[]) (by simp [results, Tryz.results83, go_sem]) rfl ?_
      exact ⟨⟨_, rfl⟩, HF.out.1, HF.out.2.1, HF.out.2.2⟩
end Lw
end Go.Proofs.YtohbonfngeblkaaGreat
namespace Go.Proofs.YtohbonfngeblkaaGreat
open Go.RowKit
namespace Lw
open Co
theorem appendH {w : World} {ops : Array Oper} {rest : List Oper} {o : Oper} {a : Act} {Q : Exit → Act → World → Prop} (ty tyl : TypeId) (sz bytes : Nat) (z : Value) (hinfo : (Tryz.prog.info? ty).map (fun i => (i.zero, i.size, i.bytes)) = some (some z, sz, bytes)) (hund : Tryz.prog.underlying tyl = some (.slice ty)) (hzs : z.cells.size = sz) (hsz : 0 < sz) (hby : bytes ≤ 64)
    (hgd : o.guard = none) (s x : Operand) (ho : o.op = .call { callee := .builtin .append, args := #[s, x], argTypes := #[tyl, tyl] }) (base : Nat)
    (v : Value) (n : Nat) (xs : List Value) (hs : a.eval s = v) (hown : w.ownsRow base ty sz v n xs)
    (b off : Nat) (m c : Nat) (news : List Value) (hx : a.eval x = .slice (some ⟨b, off, none⟩) m c) (hnl : news.length = m * sz) (hrow : RowAt w (.slice (some ⟨b, off, none⟩) m c) m news) (hone : ∀ u ∈ news, u.oneCell' = true) (hm : 0 < m)
    (h6 : n + m ≤ 1099511627776) (hbase : base ≤ w.heap.size)
    (h : ∀ g cap w', w'.ownsRow base ty sz (.slice (some ⟨g, 0, none⟩) (n + m) cap) (n + m) (xs ++ news) → w.grownBy w' v.ownBlock → (v.ownBlock = some g ∨ g = w.heap.size) → wpList Tryz.prog ops Q rest (a.put o.dst (.slice (some ⟨g, 0, none⟩) (n + m) cap)) w') : wpList Tryz.prog ops Q (o :: rest) a w := by
  obtain ⟨t0, hi, hz0, hz1, hz2⟩ := info_parts hinfo
  refine wpList_plain hgd fun _ hK => wp_append_lies w s x tyl ho base ty t0 z sz bytes hund hi hz0 hz1 hz2 hzs hsz v n xs hs hown ⟨b, off, none⟩ m c news hx hnl ?_ hone hm (by unfold maxLen; omega) ?_ hbase _ rfl fun g cap w' h2 h3 h4 _ => hK _ _ (h g cap w' h2 h3 h4)
  · intro j u hj
    obtain ⟨b', off', e, _, g⟩ := hrow.at hj
    simp only [Option.some.injEq, Addr.mk.injEq, and_true] at e
    obtain ⟨rfl, rfl⟩ := e
    rw [show (⟨b, off, none⟩ : Addr).add j = ⟨b, off + j, none⟩ by unfold Addr.add; split <;> simp_all]
    exact g
  · have : (n + m) * bytes ≤ 1099511627776 * 64 := Nat.mul_le_mul h6 hby
    omega
theorem Chg.grown {F : Nat → Prop} {w w' : World} {row : Option Nat} (h : w.grownBy w' row) (hF : ∀ y, row = some y → F y) : Chg F w w' :=
  ⟨h.os, h.tape, h.output, h.size, fun y hy hf => h.block y hy (fun e => hf (hF y e.symm))⟩
set_option maxRecDepth 20000 in
set_option maxHeartbeats 2000000 in
theorem join_flat (B gp : Nat) (b : Int) (po : Option Addr) (n1 pc : Nat) (so : Option Addr) (n2 sc : Nat) (wo : Option Addr) (n3 wc : Nat) (op : Int) (q : WyV) (c : Int) (p : ByteArray) (ws : List Wtr) (w : World) (hgp : w.heap[gp]? = some (bDesk b po n1 pc so n2 sc wo n3 wc op q)) (hr : w.ownsRow B 61 2 (.slice wo n3 wc) n3 (flatW ws)) (hB : B ≤ w.heap.size) (hq : n3 + 1 ≤ 1099511627776) :
    Calls Tryz.prog 79 #[.pointer (some ⟨gp, 0, none⟩), .int .i64 c, .string p] w fun e w' => (∃ x, e = .returned x) ∧ ∃ g vc, w'.heap[gp]? = some (bDesk b po n1 pc so n2 sc (some ⟨g, 0, none⟩) (n3 + 1) vc op q) ∧ w'.ownsRow B 61 2 (.slice (some ⟨g, 0, none⟩) (n3 + 1) vc) (n3 + 1) (flatW (ws ++ [⟨c, p⟩])) ∧ Chg (fun y => y = gp ∨ (Value.slice wo n3 wc).ownBlock = some y) w w' ∧ ((Value.slice wo n3 wc).ownBlock = some g ∨ w.heap.size ≤ g) := by
  have hgplt : gp < w.heap.size := (Array.getElem?_eq_some_iff.1 hgp).1
  obtain ⟨g0, g1, g2, g3, g4, gz⟩ := blk5d hgp
  have HR : Hid (w.ownsRow B 61 2 (.slice wo n3 wc) n3 (flatW ws) ∧ w.heap[gp]? = some (bDesk b po n1 pc so n2 sc wo n3 wc op q)) := ⟨hr, hgp⟩
  clear hr hgp
  go_enter Tryz.func79, Tryz.ntmps79
  go_wp2_with (at_builtin; refine appendH 61 30 2 24 _ info_W Tryz.underlying30 rfl (by decide) (by decide) rfl (.tmp 10) (.tmp 14) rfl B _ n3 (flatW ws) rfl (HR.out.1.alloc _) w.heap.size 0 1 1 [.int .i64 c, .string p] rfl rfl (row_new w [.int .i64 c, .string p] _ 1 rfl) (by intro u hu; simp at hu; rcases hu with rfl | rfl <;> rfl) (by decide) (by omega) (by simp; omega) ?next)
  case next =>
    intro g cap w6 hown6 hg6 hor
    have HN : Hid (gp ≠ g ∧ w6.heap[gp]? = some (bDesk b po n1 pc so n2 sc wo n3 wc op q)) := by
      have hk : ∀ y, (Value.slice wo n3 wc).ownBlock = some y → gp ≠ y := by
        intro y hy e
        obtain ⟨cc, fz, hh⟩ := Go.Lib.ownsRow_kind HR.out.1 y hy
        rw [← e, HR.out.2] at hh
        simp [bDesk] at hh
      refine ⟨?_, ?_⟩
      · rcases hor with h | h
        · exact hk g h
        · (first | omega | (simp [World.alloc] at h; omega))
      · refine (hg6.block gp (by simp; omega) (fun e => hk gp e.symm rfl)).trans ?_
        exact ((nx_alloc w _).block gp hgplt).trans HR.out.2
    obtain ⟨k0, k1, k2, k3, k4, kz⟩ := blk5d HN.out.2
    have HK : Hid (w6.ownsRow B 61 2 (.slice (some ⟨g, 0, none⟩) (n3 + 1) cap) (n3 + 1) (flatW (ws ++ [⟨c, p⟩])) ∧ Chg (fun y => (Value.slice wo n3 wc).ownBlock = some y) w w6 ∧ ((Value.slice wo n3 wc).ownBlock = some g ∨ w.heap.size ≤ g)) := by
      refine ⟨?_, ?_, ?_⟩
      · unfold flatW
        rw [List.flatMap_append]
        exact hown6
      · exact (Chg.of_below (nx_alloc w _)).trans (Chg.grown (F := fun y => (Value.slice wo n3 wc).ownBlock = some y) hg6 (fun y hy => hy)) (fun y hy => .inl hy)
      · rcases hor with h | h
        · exact .inl h
        · exact .inr (by first | omega | (simp [World.alloc] at h; omega))
    clear hown6 hg6 hor g0 g1 g2 g3 g4 gz
    go_wp2_with fail
    refine bodyPost_end (v := .tuple #[]) (by simp [results, Tryz.results79, go_sem]) rfl ?_
    refine ⟨⟨_, rfl⟩, g, cap, ?_, ?_, ?_, HK.out.2.2⟩
    · exact set_heap _ _ _ _ _ _ HN.out.2
    · exact ownG_heap HK.out.1 (fun j hj => Below.heap_setCell _ _ _ _ (by show j ≠ gp; intro e; exact HN.out.1 (by have : g = j := by simpa [Value.ownBlock] using hj
                                                                                                                    omega)))
    · exact (HK.out.2.1.mono (fun y hy => .inr hy)).trans (Chg.set (F := fun y => y = gp) w6 gp 3 _ rfl) (fun y hy => .inl (.inl hy))
end Lw
end Go.Proofs.YtohbonfngeblkaaGreat
