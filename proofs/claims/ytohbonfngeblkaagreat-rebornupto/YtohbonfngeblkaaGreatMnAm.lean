import Derived.Test.YtohbonfngeblkaaGreatMnAl
import Derived.Deep.RegionHeld3
namespace Go.Proofs.YtohbonfngeblkaaGreat
open Go.RowKit
namespace Lw
open Co
theorem diff_len (ba : Int) (ps : List Pl) (bb : Int) (qs : List Pl) (h1 : ps.length ≤ 6) (h2 : qs.length ≤ 6) : (Df.diffL ba ps bb qs).length ≤ 56 := by
  have h : ∀ n : Nat, (Df.diffTo n ba ps bb qs).length ≤ 7 * n := by
    intro n
    induction n with
    | zero => simp [Df.diffTo]
    | succ n ih =>
      rw [Df.diffTo_succ, List.length_append]
      have := Df.kindL_len ((n : Int) + 1) ba ps bb qs h1 h2
      omega
  exact h 8
theorem blk5y {w : World} {g : Nat} {c0 c1 c2 c3 c4 : Value} {t : TypeId} (h : w.heap[g]? = some (.cells #[c0, c1, c2, c3, c4] t (0, 0))) :
    w.cell? ⟨g, 0, none⟩ = some c0 ∧ w.cell? ⟨g, 1, none⟩ = some c1 ∧ w.cell? ⟨g, 2, none⟩ = some c2 ∧ w.cell? ⟨g, 3, none⟩ = some c3 ∧ w.cell? ⟨g, 4, none⟩ = some c4 ∧ ∀ a, w.frozen? ⟨g, a, none⟩ = false := by
  refine ⟨?_, ?_, ?_, ?_, ?_, fun a => ?_⟩ <;> simp [World.cell?, World.frozen?, h]
def fwdH (L : List Stp) (b : Int) (ps : List Pl) : Int × List Pl := if L.length = 0 then (0, []) else (b, ps)
set_option maxRecDepth 20000 in
set_option maxHeartbeats 4000000 in
theorem cForth (ba : Int) (ao : Option Addr) (n ac : Nat) (ps : List Pl) (bb : Int) (bo : Option Addr) (m bc : Nat) (qs : List Pl) (w : World) (hr : RowAt w (.slice ao n ac) n (flatP ps)) (hnil : ao = none → ac = 0) (hn : ps.length = n) (hn6 : n ≤ 6) (hr2 : RowAt w (.slice bo m bc) m (flatP qs)) (hm : qs.length = m) (hm6 : m ≤ 6) :
    Calls Tryz.prog 56 #[.agg #[.int .i64 ba, .slice ao n ac], .agg #[.int .i64 bb, .slice bo m bc]] w fun e w' => WayG (Df.diffL ba ps bb qs) false (fwdH (Df.diffL ba ps bb qs) ba ps) w w' e := by
  obtain ⟨W, hW⟩ : ∃ W, W = ((w.alloc (bTab ba (.slice ao n ac))).alloc (bTab bb (.slice bo m bc))).alloc zWay := ⟨_, rfl⟩
  have hbW : Below w.heap.size w W := by rw [hW]; exact nx_trans (nx_trans (nx_alloc _ _) (nx_alloc _ _)) (nx_alloc _ _)
  have HW : Hid (W = ((w.alloc (bTab ba (.slice ao n ac))).alloc (bTab bb (.slice bo m bc))).alloc zWay ∧ W.heap[w.heap.size]? = some (bTab ba (.slice ao n ac)) ∧ W.heap[w.heap.size + 1]? = some (bTab bb (.slice bo m bc)) ∧ W.heap[w.heap.size + 2]? = some zWay ∧ Below w.heap.size w W) := by
    refine ⟨hW, ?_, ?_, ?_, hbW⟩
    · rw [hW]; exact (heap_alloc_lt _ _ (by simp; omega)).trans ((heap_alloc_lt _ _ (by simp)).trans (heap_alloc_at _ _ rfl))
    · rw [hW]; exact (heap_alloc_lt _ _ (by simp)).trans (heap_alloc_at _ _ (by simp))
    · rw [hW]; exact heap_alloc_at _ _ (by simp)
  have hsz : w.heap.size + 2 < W.heap.size := (Array.getElem?_eq_some_iff.1 HW.out.2.2.2.1).1
  have HB := hideIt (Df.cBetween ba ao n ac ps bb bo m bc qs W (hr.nx hbW) hn hn6 (hr2.nx hbW) hm hm6)
  have HCP := hideIt (fun u (hu : Below W.heap.size W u) => copy_any ba ps ao n ac u ((hr.nx hbW).nx hu) hnil hn (by omega))
  have HN := hideIt hn
  obtain ⟨L, hL⟩ : ∃ L, Df.diffL ba ps bb qs = L := ⟨_, rfl⟩
  unfold Df.GaveB at HB
  rw [hL] at HB ⊢
  obtain ⟨q, hq⟩ : ∃ q, L.length = q := ⟨_, rfl⟩
  rw [hq] at HB
  have HQ := hideIt hq
  have hq56 : q ≤ 56 := by rw [← hq, ← hL]; exact diff_len ba ps bb qs (by omega) (by omega)
  obtain ⟨a0, a1, az⟩ := blk2 HW.out.2.1
  obtain ⟨b0, b1, bz⟩ := blk2 HW.out.2.2.1
  clear hr hnil hn hr2 hm hW hbW hL hq
  go_enter Tryz.func56, Tryz.ntmps56
  go_upto_region 1 with fail
  rw [← HW.out.1]
  go_wp2_with fail
  refine HB.out.mono ?_
  rintro e w1 ⟨vo, vc, rfl, hown, hb1⟩
  have HB1 := hideIt (And.intro hown hb1)
  clear hown hb1 a0 a1 az b0 b1 bz
  have hz1 : w1.heap[w.heap.size + 2]? = some zWay := (HB1.out.2.block _ hsz).trans HW.out.2.2.2.1
  have ha1 : w1.heap[w.heap.size]? = some (bTab ba (.slice ao n ac)) := (HB1.out.2.block _ (by omega)).trans HW.out.2.1
  cases h0 : ((q : Int) == 0) with
  | true =>
    have hq0 : q = 0 := by have := eq_of_beq h0; omega
    obtain ⟨y0, y1, y2, y3, y4, yz⟩ := blk5y hz1
    have HF : Hid (fwdH L ba ps = (0, [])) := by show _ = _; unfold fwdH; rw [HQ.out, if_pos hq0]
    have HL0 : Hid (L = []) := List.length_eq_zero_iff.1 (by rw [HQ.out]; exact hq0)
    clear ha1 hz1
    go_wp2_with fail
    refine bodyPost_ret (v := .agg #[.slice none 0 0, .bool false, .bool false, .int .i64 0, .slice none 0 0]) (by simp [results, Tryz.results56, go_sem, y0, y1, y2, y3, y4]) rfl ?_
    rw [HF.out, HL0.out]
    refine ⟨none, 0, none, 0, rfl, World.ownsRow_nil _ _ _ _, World.ownsRow_nil _ _ _ _, ?_⟩
    have hg : w.heap.size ≤ w.heap.size + 2 := by omega
    exact (((((nx_trans HW.out.2.2.2.2 HB1.out.2).setCell hg _).setCell hg _).setCell hg _).setCell hg _).setCell hg _
  | false =>
    have hq0 : ¬ q = 0 := fun h => by rw [h] at h0; simp at h0
    have HF : Hid (fwdH L ba ps = (ba, ps)) := by show _ = _; unfold fwdH; rw [HQ.out, if_neg hq0]
    have HC1 := hideIt (HCP.out w1 HB1.out.2)
    obtain ⟨a0, a1, az⟩ := blk2 ha1
    have hqi : ¬ (q : Int) = 0 := by omega
    clear ha1
    go_wp2_with fail
    refine HC1.out.mono ?_
    rintro e w2 ⟨ho, hc, rfl, hown2, hb2⟩
    have hz2 : w2.heap[w.heap.size + 2]? = some zWay := (hb2.block _ (Array.getElem?_eq_some_iff.1 hz1).1).trans hz1
    have K2 : Hid (w2.ownsRow W.heap.size 71 3 (.slice vo q vc) q (flatT L) ∧ w2.ownsRow W.heap.size 75 4 (.slice ho n hc) n (flatP ps) ∧ Below W.heap.size W w2) := ⟨own_below HB1.out.1 hb2, own_mono hown2 HB1.out.2.size, nx_trans HB1.out.2 hb2⟩
    obtain ⟨y0, y1, y2, y3, y4, yz⟩ := blk5y hz2
    clear hown2 hb2 hz1 hz2 a0 a1 az
    go_wp2_with fail
    refine bodyPost_ret (v := .agg #[.slice vo q vc, .bool false, .bool false, .int .i64 ba, .slice ho n hc]) (by simp [results, Tryz.results56, go_sem, y0, y1, y2, y3, y4]) rfl ?_
    rw [HF.out]
    refine ⟨vo, vc, ho, hc, by rw [HQ.out, HN.out], ?_, ?_, ?_⟩
    · rw [HQ.out]
      exact own_mono (own_set5 K2.out.1 hsz _ _ _ _ _) (by omega)
    · show World.ownsRow _ _ _ _ (.slice ho ps.length hc) ps.length (flatP ps)
      rw [HN.out]
      exact own_mono (own_set5 K2.out.2.1 hsz _ _ _ _ _) (by omega)
    · have hg : w.heap.size ≤ w.heap.size + 2 := by omega
      exact (((((nx_trans HW.out.2.2.2.2 K2.out.2.2).setCell hg _).setCell hg _).setCell hg _).setCell hg _).setCell hg _
def anyS (L : List Stp) : Bool := !decide (L.length = 0)
set_option maxRecDepth 20000 in
set_option maxHeartbeats 4000000 in
theorem wBack (gp : Nat) (b : Int) (po : Option Addr) (n1 pc : Nat) (so : Option Addr) (n2 sc : Nat) (wo : Option Addr) (n3 wc : Nat) (op : Int) (yo : Option Addr) (n4 yc : Nat) (bg bk : Bool) (hb : Int) (ho : Option Addr) (n5 hc : Nat) (ba : Int) (ao : Option Addr) (n ac : Nat) (ps : List Pl) (hs : List Pl) (w : World) (hgp : w.heap[gp]? = some (bDesk b po n1 pc so n2 sc wo n3 wc op ⟨.slice yo n4 yc, bg, bk, hb, .slice ho n5 hc⟩)) (hr : RowAt w (.slice ao n ac) n (flatP ps)) (hn : ps.length = n) (hn6 : n ≤ 6) (hr2 : RowAt w (.slice ho n5 hc) n5 (flatP hs)) (hm : hs.length = n5) (hm6 : n5 ≤ 6) :
    Calls Tryz.prog 67 #[.pointer (some ⟨gp, 5, none⟩), .agg #[.int .i64 ba, .slice ao n ac]] w fun e w' => WayG (Df.diffL ba ps hb hs) (anyS (Df.diffL ba ps hb hs)) (0, []) w w' e := by
  have hgplt : gp < w.heap.size := (Array.getElem?_eq_some_iff.1 hgp).1
  obtain ⟨W, hW⟩ : ∃ W, W = (w.alloc (bTab ba (.slice ao n ac))).alloc zWay := ⟨_, rfl⟩
  have hbW : Below w.heap.size w W := by rw [hW]; exact nx_trans (nx_alloc _ _) (nx_alloc _ _)
  have HW : Hid (W = (w.alloc (bTab ba (.slice ao n ac))).alloc zWay ∧ W.heap[w.heap.size]? = some (bTab ba (.slice ao n ac)) ∧ W.heap[w.heap.size + 1]? = some zWay ∧ Below w.heap.size w W) := by
    refine ⟨hW, ?_, ?_, hbW⟩
    · rw [hW]; exact (heap_alloc_lt _ _ (by simp)).trans (heap_alloc_at _ _ rfl)
    · rw [hW]; exact heap_alloc_at _ _ (by simp)
  have hsz : w.heap.size + 1 < W.heap.size := (Array.getElem?_eq_some_iff.1 HW.out.2.2.1).1
  have HB := hideIt (fun u (hu : Below W.heap.size W u) => Df.cBetween ba ao n ac ps hb ho n5 hc hs u ((hr.nx hbW).nx hu) hn hn6 ((hr2.nx hbW).nx hu) hm hm6)
  obtain ⟨L, hL⟩ : ∃ L, Df.diffL ba ps hb hs = L := ⟨_, rfl⟩
  unfold Df.GaveB at HB
  rw [hL] at HB ⊢
  obtain ⟨q, hq⟩ : ∃ q, L.length = q := ⟨_, rfl⟩
  rw [hq] at HB
  have HQ := hideIt hq
  obtain ⟨a0, a1, az⟩ := blk2 HW.out.2.1
  obtain ⟨g5, g6, g7, g8, g9, gz⟩ := blkWd ((hbW.block gp hgplt).trans hgp)
  have hgW : gp < W.heap.size := Nat.lt_of_lt_of_le hgplt hbW.size
  have hw0 : w.heap.size < W.heap.size := by omega
  clear hgp hr hn hr2 hm hW hbW hL hq
  go_enter Tryz.func67, Tryz.ntmps67
  go_upto_region 1 with fail
  rw [← HW.out.1]
  go_cut [5] (fun v wx => ∃ vo vc wy, v = .slice vo q vc ∧ Hid (wy.ownsRow W.heap.size 71 3 (.slice vo q vc) q (flatT L) ∧ Below W.heap.size W wy) ∧ wy = wx)
  case first =>
    go_region_held3 (fun w' => w'.cell? ⟨w.heap.size, 0, none⟩ = some (.int .i64 ba) ∧ w'.cell? ⟨w.heap.size, 1, none⟩ = some (.slice ao n ac) ∧ w'.cell? ⟨gp, 8, none⟩ = some (.int .i64 hb) ∧ w'.cell? ⟨gp, 9, none⟩ = some (.slice ho n5 hc)) (go_keep)
      ((go_at_call 74; refine (HB.out _ ((Below.refl _ _).drew)).mono ?_; rintro e w1 ⟨vo, vc, rfl, hown, hb1⟩; have HB1 : Hid (w1.ownsRow W.heap.size 71 3 (.slice vo q vc) q (flatT L) ∧ Below W.heap.size W w1) := ⟨hown, nx_trans (Below.refl _ _).drew hb1⟩; have q1 := (HB1.out.2.cell (p := ⟨w.heap.size, 0, none⟩) hw0).trans a0; have q2 := (HB1.out.2.cell (p := ⟨w.heap.size, 1, none⟩) hw0).trans a1; have q3 := (HB1.out.2.cell (p := ⟨gp, 8, none⟩) hgW).trans g8; have q4 := (HB1.out.2.cell (p := ⟨gp, 9, none⟩) hgW).trans g9; clear hown hb1))
    all_goals
      go_wp2_with fail
      go_meet
      exact ⟨vo, vc, _, rfl, HB1.out, rfl⟩
  case rest =>
    obtain ⟨vo, vc, wy, rfl, HB1, rfl⟩ := hcut
    clear a0 a1 az g5 g6 g7 g8 g9 gz
    have hz1 : wy.heap[w.heap.size + 1]? = some zWay := (HB1.out.2.block _ hsz).trans HW.out.2.2.1
    obtain ⟨y0, y1, y2, y3, y4, yz⟩ := blk5y hz1
    clear hz1
    cases h0 : ((q : Int) == 0) with
    | true =>
      have hq0 : q = 0 := by have := eq_of_beq h0; omega
      have HL0 : Hid (L = []) := List.length_eq_zero_iff.1 (by rw [HQ.out]; exact hq0)
      go_wp2_with fail
      refine bodyPost_ret (v := .agg #[.slice none 0 0, .bool false, .bool false, .int .i64 0, .slice none 0 0]) (by simp [results, Tryz.results67, go_sem, y0, y1, y2, y3, y4]) rfl ?_
      rw [HL0.out]
      refine ⟨none, 0, none, 0, rfl, World.ownsRow_nil _ _ _ _, World.ownsRow_nil _ _ _ _, ?_⟩
      have hg : w.heap.size ≤ w.heap.size + 1 := by omega
      exact (((((nx_trans HW.out.2.2.2 HB1.out.2).setCell hg _).setCell hg _).setCell hg _).setCell hg _).setCell hg _
    | false =>
      have hq0 : ¬ q = 0 := fun h => by rw [h] at h0; simp at h0
      have hqi : ¬ (q : Int) = 0 := by omega
      have HA : Hid (anyS L = true) := by show _ = _; unfold anyS; rw [HQ.out]; simp [hq0]
      go_wp2_with fail
      refine bodyPost_ret (v := .agg #[.slice vo q vc, .bool false, .bool true, .int .i64 0, .slice none 0 0]) (by simp [results, Tryz.results67, go_sem, y0, y1, y2, y3, y4]) rfl ?_
      rw [HA.out]
      refine ⟨vo, vc, none, 0, by rw [HQ.out]; rfl, ?_, World.ownsRow_nil _ _ _ _, ?_⟩
      · rw [HQ.out]
        exact own_mono (own_set5 HB1.out.1 hsz _ _ _ _ _) (by omega)
      · have hg : w.heap.size ≤ w.heap.size + 1 := by omega
        exact (((((nx_trans HW.out.2.2.2 HB1.out.2).setCell hg _).setCell hg _).setCell hg _).setCell hg _).setCell hg _
theorem moved_way {w w' : World} {gp : Nat} {S : Sta} {X : Aux} {F : Nat → Prop} {po : Option Addr} {pc : Nat} {so : Option Addr} {sc : Nat} {wo : Option Addr} {wc : Nat} {yo : Option Addr} {yc : Nat} {ho : Option Addr} {hc : Nat} (h : DeskX w gp S X F po pc so sc wo wc yo yc ho hc) (hg : F gp) (hlt : ∀ x, F x → x < w.heap.size) (T : List Stp) (bg bk : Bool) (hb : Int) (hs : List Pl) (yo' : Option Addr) (yc' : Nat) (ho' : Option Addr) (hc' : Nat)
    (hbox : w'.heap[gp]? = some (bDesk S.bud po S.pools.length pc so S.srv.length sc wo S.wts.length wc X.op ⟨.slice yo' T.length yc', bg, bk, hb, .slice ho' hs.length hc'⟩))
    (hy : Held w' (Nxt F w w') 71 3 (.slice yo' T.length yc') T.length (flatT T)) (hh : Held w' (Nxt F w w') 75 4 (.slice ho' hs.length hc') hs.length (flatP hs))
    (hch : Chg (fun y => y = gp) w w') : Moved w w' gp { S with plan := T, begun := bg, back := bk } { X with hb := hb, hps := hs } F := by
  have hsz : ∀ g, F g → Nxt F w w' g := fun g hg => ⟨.inl hg, Nat.lt_of_lt_of_le (hlt g hg) hch.size⟩
  have hk : ∀ {ty : TypeId} {sz n : Nat} {v : Value} {cs : List Value}, Held w F ty sz v n cs → ty ≠ 82 → Held w' (Nxt F w w') ty sz v n cs := by
    intro ty sz n v cs hh h2
    refine ⟨ownG_heap hh.own (fun j hj => hch.block j (hlt j (hh.blk j hj)) ?_), fun g hg => hsz g (hh.blk g hg)⟩
    intro e
    exact own_boxD hh.own h.box h2 (by rw [← show j = gp from e]; exact hj)
  exact ⟨Nxt F w w', ⟨⟨po, pc, so, sc, wo, wc, yo', yc', ho', hc', hbox, hk h.p (by decide), hk h.s (by decide), hk h.t (by decide), hy, hh⟩, hsz gp hg, fun x hx => hx.2⟩, fun y hy => hy.1, hch.mono (fun y hy => by rw [show y = gp from hy]; exact hg)⟩
theorem held_same {w w' : World} {gp : Nat} {S : Sta} {X : Aux} {F : Nat → Prop} {po : Option Addr} {pc : Nat} {so : Option Addr} {sc : Nat} {wo : Option Addr} {wc : Nat} {yo : Option Addr} {yc : Nat} {ho : Option Addr} {hc : Nat} (h : DeskX w gp S X F po pc so sc wo wc yo yc ho hc) (hlt : ∀ x, F x → x < w.heap.size) (hch : Chg (fun y => y = gp) w w') {ty : TypeId} {sz n : Nat} {v : Value} {cs : List Value} (hh : Held w F ty sz v n cs) (h2 : ty ≠ 82) : Held w' (Nxt F w w') ty sz v n cs := by
  refine ⟨ownG_heap hh.own (fun j hj => hch.block j (hlt j (hh.blk j hj)) ?_), fun g hg => ⟨.inl (hh.blk g hg), Nat.lt_of_lt_of_le (hlt g (hh.blk g hg)) hch.size⟩⟩
  intro e
  exact own_boxD hh.own h.box h2 (by rw [← show j = gp from e]; exact hj)
theorem held_new {w w1 w' : World} {gp : Nat} {F : Nat → Prop} (hlt : gp < w.heap.size) (hch : Chg (fun y => y = gp) w1 w') {ty : TypeId} {sz n : Nat} {v : Value} {cs : List Value} (hown : w1.ownsRow w.heap.size ty sz v n cs) : Held w' (Nxt F w w') ty sz v n cs := by
  refine ⟨own_mono (ownG_heap hown (fun j hj => hch.block j (hown.lt j hj).2 (fun e => by have := (hown.lt j hj).1; have e' : j = gp := e; omega))) (Nat.zero_le _), fun g hg => ⟨.inr (hown.lt g hg).1, Nat.lt_of_lt_of_le (hown.lt g hg).2 hch.size⟩⟩
end Lw
end Go.Proofs.YtohbonfngeblkaaGreat
