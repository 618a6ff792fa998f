
import Derived.Test.YthkilnhdhacpaaaRdE
import Derived.Test.YthkilnhdhacpaaaLwI
import Derived.Test.YthkilnhdhacpaaaPrC
import Derived.Test.YthkilnhdhacpaaaPrF
namespace Go.Proofs.Ythkilnhdhacpaaa
open Go.RowKit
namespace Df
open Co Lw

def vc (p : Pr.Pl) : Pl := ⟨p.nm, p.sz, p.wt, p.fr⟩
theorem flat_vc (W : World) (bl : Nat) : ∀ (off : Nat) (ps : List Pr.Pl), (∀ (i : Nat) (p : Pr.Pl), ps[i]? = some p → W.cell? ⟨bl, off + i * 4, none⟩ = some (.string p.nm) ∧ W.cell? ⟨bl, off + i * 4 + 1, none⟩ = some (.int .i64 p.sz) ∧ W.cell? ⟨bl, off + i * 4 + 2, none⟩ = some (.int .i64 p.wt) ∧ W.cell? ⟨bl, off + i * 4 + 3, none⟩ = some (.int .i64 p.fr)) →
    ∀ (j : Nat) (x : Value), (flatP (ps.map vc))[j]? = some x → W.cell? ⟨bl, off + j, none⟩ = some x
  | off, [], _, j, x, h => by simp [flatP] at h
  | off, q :: r, hp, j, x, h => by
    have h0 := hp 0 q rfl
    match j, h with
    | 0, h => simp only [List.map_cons, flatP, List.getElem?_cons_zero, Option.some.injEq] at h; subst h; simpa [vc] using h0.1
    | 1, h => simp only [List.map_cons, flatP, List.getElem?_cons_succ, List.getElem?_cons_zero, Option.some.injEq] at h; subst h; simpa [vc] using h0.2.1
    | 2, h => simp only [List.map_cons, flatP, List.getElem?_cons_succ, List.getElem?_cons_zero, Option.some.injEq] at h; subst h; simpa [vc] using h0.2.2.1
    | 3, h => simp only [List.map_cons, flatP, List.getElem?_cons_succ, List.getElem?_cons_zero, Option.some.injEq] at h; subst h; simpa [vc] using h0.2.2.2
    | j + 4, h =>
      simp only [List.map_cons, flatP, List.getElem?_cons_succ] at h
      have ih := flat_vc W bl (off + 4) r (fun i p hi => by
        have := hp (i + 1) p (by simpa using hi)
        have e : off + (i + 1) * 4 = off + 4 + i * 4 := by omega
        rw [e] at this
        exact this) j x h
      rw [show off + (j + 4) = off + 4 + j by omega]
      exact ih
theorem row_vc {w : World} {ao : Option Addr} {n c : Nat} {ps : List Pr.Pl} (h : Pr.Pools w ao ps) (hc : n ≤ c) : RowAt w (.slice ao n c) n (flatP (ps.map vc)) := by
  refine ⟨ao, c, rfl, hc, ?_⟩
  rcases h with rfl | ⟨b, off, h1, h2, h3⟩
  · exact .inl rfl
  · exact .inr ⟨b, off, h1, h2, flat_vc w b off ps (fun i p hp => ⟨(h3 i p hp).1, (h3 i p hp).2.1, (h3 i p hp).2.2.1, (h3 i p hp).2.2.2.1⟩)⟩
theorem pools_left {w : World} {ao : Option Addr} {ps qs : List Pr.Pl} (h : Pr.Pools w ao (ps ++ qs)) : Pr.Pools w ao ps := by
  rcases h with h | ⟨bl, off, h1, h2, h3⟩
  · exact .inl (List.append_eq_nil_iff.1 h).1
  · exact .inr ⟨bl, off, h1, h2, fun i p hp => h3 i p (by rw [List.getElem?_append_left (List.getElem?_eq_some_iff.1 hp).1]; exact hp)⟩
theorem chk_ok : ∀ (l : ByteArray) (ps : List Pr.Pl), Pr.chk l ps = true → ∀ p ∈ ps, Pr.plOk p = true
  | _, [], _, p, hp => by simp at hp
  | l, q :: r, h, p, hp => by
    simp [Pr.chk] at h
    rcases List.mem_cons.1 hp with rfl | hp
    · exact h.1.1
    · exact chk_ok _ r h.2 p hp
theorem tab_len {b : Int} {ps : List Pr.Pl} (h : Pr.tabOk b ps = true) : ps.length ≤ 6 := by
  simp [Pr.tabOk] at h
  exact h.1.2
theorem tab_pos {b : Int} {ps : List Pr.Pl} (h : Pr.tabOk b ps = true) : ∀ p ∈ ps.map vc, 0 ≤ p.sz := by
  simp [Pr.tabOk] at h
  intro p hp
  obtain ⟨q, hq, rfl⟩ := List.mem_map.1 hp
  have h2 := chk_ok _ _ h.2 q hq
  simp [Pr.plOk] at h2
  exact (Pr.inB_t h2.1.1.2).1

set_option maxRecDepth 20000 in
set_option maxHeartbeats 4000000 in
theorem differ_any (ba : Int) (ao : Option Addr) (n ac : Nat) (ps : List Pr.Pl) (bb : Int) (bo : Option Addr) (m bc : Nat) (qs : List Pr.Pl) (w : World) (hps : Pr.Pools w ao ps) (hn : ps.length = n) (hlen : n * 40 ≤ 140737488351232) (hc : n ≤ ac) (hqs : Pr.Pools w bo qs) (hm : qs.length = m) (hmen : m * 40 ≤ 140737488351232) (hc2 : m ≤ bc) :
    Calls Try.prog 4 #[.agg #[.int .i64 ba, .slice ao n ac], .agg #[.int .i64 bb, .slice bo m bc]] w fun e w' => ∃ (L : List Stp) (vo : Option Addr) (c : Nat), e = .returned (.tuple #[.slice vo L.length c, .bool true]) ∧ w'.ownsRow w.heap.size 44 3 (.slice vo L.length c) L.length (flatT L) ∧ Below w.heap.size w w' := by
  obtain ⟨W, hW⟩ : ∃ W, W = (w.alloc (bTab ba (.slice ao n ac))).alloc (bTab bb (.slice bo m bc)) := ⟨_, rfl⟩
  have hbW : Below w.heap.size w W := by rw [hW]; exact nx_trans (nx_alloc _ _) (nx_alloc _ _)
  have HW : Hid (W = (w.alloc (bTab ba (.slice ao n ac))).alloc (bTab bb (.slice bo m bc)) ∧ W.heap[w.heap.size]? = some (bTab ba (.slice ao n ac)) ∧ W.heap[w.heap.size + 1]? = some (bTab bb (.slice bo m bc)) ∧ Below w.heap.size w W) := by
    refine ⟨hW, ?_, ?_, hbW⟩
    · rw [hW]; exact (heap_alloc_lt _ _ (by simp)).trans (heap_alloc_at _ _ rfl)
    · rw [hW]; exact heap_alloc_at _ _ (by simp)
  have HP : Hid (Pr.Pools w ao ps ∧ Pr.Pools w bo qs ∧ ps.length = n ∧ qs.length = m ∧ n ≤ ac ∧ m ≤ bc ∧ n * 40 ≤ 140737488351232 ∧ m * 40 ≤ 140737488351232 ∧ n ≤ maxLen ∧ m ≤ maxLen) := ⟨hps, hqs, hn, hm, hc, hc2, hlen, hmen, by unfold maxLen; omega, by unfold maxLen; omega⟩
  clear hps hqs hn hm hc hc2 hW hbW hlen hmen
  go_enter Try.func4, Try.ntmps4
  go_wp2_with fail
  rw [← HW.out.1]
  refine (Pr.handed_any ba ao ac n ps W (HP.out.1.nx HW.out.2.2.2) HP.out.2.2.1 HP.out.2.2.2.2.2.2.1).mono ?_
  rintro e w1 ⟨g1, rfl, hx1, hb1⟩
  obtain ⟨W2, hW2⟩ : ∃ W2, W2 = w1.alloc (bTab ba (.slice (some ⟨g1, 0, none⟩) n (n + 2))) := ⟨_, rfl⟩
  have hb2 : Below W.heap.size W W2 := by rw [hW2]; exact nx_trans hb1 (nx_alloc _ _)
  have H2 : Hid (W2 = w1.alloc (bTab ba (.slice (some ⟨g1, 0, none⟩) n (n + 2))) ∧ Below W.heap.size W W2 ∧ Pr.Pools W2 (some ⟨g1, 0, none⟩) (ps ++ [Pr.fgn, Pr.fgn]) ∧ W2.heap[w1.heap.size]? = some (bTab ba (.slice (some ⟨g1, 0, none⟩) n (n + 2)))) := by
    refine ⟨hW2, hb2, ?_, ?_⟩
    · rw [hW2]; exact hx1.nx (nx_alloc _ _)
    · rw [hW2]; exact heap_alloc_at _ _ rfl
  obtain ⟨p0, p1, pz⟩ := blk2 (blk_nx HW.out.2.2.1 hb1)
  have pp0 : ∀ o, (w1.alloc o).cell? ⟨w.heap.size + 1, 0, none⟩ = some (.int .i64 bb) := fun o => (blk2 (blk_nx (blk_nx HW.out.2.2.1 hb1) (nx_alloc _ o))).1
  have pp1 : ∀ o, (w1.alloc o).cell? ⟨w.heap.size + 1, 1, none⟩ = some (.slice bo m bc) := fun o => (blk2 (blk_nx (blk_nx HW.out.2.2.1 hb1) (nx_alloc _ o))).2.1
  clear hx1 hb1 hW2 hb2
  go_wp2_with fail
  rw [← H2.out.1]
  refine (Pr.handed_any bb bo bc m qs W2 (HP.out.2.1.nx (nx_trans HW.out.2.2.2 H2.out.2.1)) HP.out.2.2.2.1 HP.out.2.2.2.2.2.2.2.1).mono ?_
  rintro e w3 ⟨g2, rfl, hx3, hb3⟩
  obtain ⟨W4, hW4⟩ : ∃ W4, W4 = w3.alloc (bTab bb (.slice (some ⟨g2, 0, none⟩) m (m + 2))) := ⟨_, rfl⟩
  have hb4 : Below W2.heap.size W2 W4 := by rw [hW4]; exact nx_trans hb3 (nx_alloc _ _)
  have H4 : Hid (W4 = w3.alloc (bTab bb (.slice (some ⟨g2, 0, none⟩) m (m + 2))) ∧ Below w.heap.size w W4 ∧ Pr.Pools W4 (some ⟨g1, 0, none⟩) (ps ++ [Pr.fgn, Pr.fgn]) ∧ Pr.Pools W4 (some ⟨g2, 0, none⟩) (qs ++ [Pr.fgn, Pr.fgn]) ∧ W4.heap[w.heap.size]? = some (bTab ba (.slice ao n ac)) ∧ W4.heap[w.heap.size + 1]? = some (bTab bb (.slice bo m bc)) ∧ W4.heap[w1.heap.size]? = some (bTab ba (.slice (some ⟨g1, 0, none⟩) n (n + 2))) ∧ W4.heap[w3.heap.size]? = some (bTab bb (.slice (some ⟨g2, 0, none⟩) m (m + 2)))) := by
    refine ⟨hW4, nx_trans HW.out.2.2.2 (nx_trans H2.out.2.1 hb4), H2.out.2.2.1.nx hb4, ?_, blk_nx HW.out.2.1 (nx_trans H2.out.2.1 hb4), blk_nx HW.out.2.2.1 (nx_trans H2.out.2.1 hb4), blk_nx H2.out.2.2.2 hb4, ?_⟩
    · rw [hW4]; exact hx3.nx (nx_alloc _ _)
    · rw [hW4]; exact heap_alloc_at _ _ rfl
  have s0 : ∀ o, (w3.alloc o).cell? ⟨w1.heap.size, 0, none⟩ = some (.int .i64 ba) := fun o => (blk2 (blk_nx (blk_nx H2.out.2.2.2 hb3) (nx_alloc _ o))).1
  have s1 : ∀ o, (w3.alloc o).cell? ⟨w1.heap.size, 1, none⟩ = some (.slice (some ⟨g1, 0, none⟩) n (n + 2)) := fun o => (blk2 (blk_nx (blk_nx H2.out.2.2.2 hb3) (nx_alloc _ o))).2.1
  clear hx3 hb3 hW4 hb4 p0 p1 pz pp0 pp1
  have HD := hideIt (pDiff (Pr.tabOk ba ps) (Pr.tabOk bb qs) ba (some ⟨g1, 0, none⟩) n (n + 2) (ps.map vc) bb (some ⟨g2, 0, none⟩) m (m + 2) (qs.map vc) W4 (row_vc (pools_left H4.out.2.2.1) (by omega)) (by rw [List.length_map]; exact HP.out.2.2.1) (fun h => by rw [← HP.out.2.2.1]; exact tab_len h) (row_vc (pools_left H4.out.2.2.2.1) (by omega)) (by rw [List.length_map]; exact HP.out.2.2.2.1) (fun h => by rw [← HP.out.2.2.2.1]; exact tab_len h)
    (fun u hu => by have := Pr.isTable_any ba (some ⟨g1, 0, none⟩) (n + 2) ps u ((pools_left H4.out.2.2.1).nx hu) (by rw [HP.out.2.2.1]; exact HP.out.2.2.2.2.2.2.2.2.1); rw [HP.out.2.2.1] at this; exact this)
    (fun u hu => by have := Pr.isTable_any bb (some ⟨g2, 0, none⟩) (m + 2) qs u ((pools_left H4.out.2.2.2.1).nx hu) (by rw [HP.out.2.2.2.1]; exact HP.out.2.2.2.2.2.2.2.2.2); rw [HP.out.2.2.2.1] at this; exact this))
  go_wp2_with fail
  rw [← H4.out.1]
  refine HD.out.mono ?_
  rintro e w5 ⟨vo, c1, rfl, ho5, hb5⟩
  have HR := hideIt (rDiff (Pr.tabOk ba ps) (Pr.tabOk bb qs) ba ao n ac (ps.map vc) bb bo m bc (qs.map vc) w5 (row_vc (HP.out.1.nx (nx_trans H4.out.2.1 hb5)) HP.out.2.2.2.2.1) (by rw [List.length_map]; exact HP.out.2.2.1) (fun h => by rw [← HP.out.2.2.1]; exact tab_len h) (row_vc (HP.out.2.1.nx (nx_trans H4.out.2.1 hb5)) HP.out.2.2.2.2.2.1) (by rw [List.length_map]; exact HP.out.2.2.2.1) (fun h => by rw [← HP.out.2.2.2.1]; exact tab_len h) tab_pos
    (fun u hu => by have := Pr.sound_any ba ao ac ps u (HP.out.1.nx (nx_trans H4.out.2.1 (nx_trans hb5 hu))) (by rw [HP.out.2.2.1]; exact HP.out.2.2.2.2.2.2.2.2.1); rw [HP.out.2.2.1] at this; exact this)
    (fun u hu => by have := Pr.sound_any bb bo bc qs u (HP.out.2.1.nx (nx_trans H4.out.2.1 (nx_trans hb5 hu))) (by rw [HP.out.2.2.2.1]; exact HP.out.2.2.2.2.2.2.2.2.2); rw [HP.out.2.2.2.1] at this; exact this))
  obtain ⟨L, hL⟩ : ∃ L, gotL (Pr.tabOk ba ps && Pr.tabOk bb qs) ba (ps.map vc) bb (qs.map vc) = L := ⟨_, rfl⟩
  obtain ⟨er, her⟩ : ∃ er, gotE (Pr.tabOk ba ps && Pr.tabOk bb qs) = er := ⟨_, rfl⟩
  unfold GaveD at HR
  rw [hL, her] at HR
  rw [hL] at ho5
  rw [hL, her]
  have hLl : L.length ≤ 100 := by
    rw [← hL]
    unfold gotL
    split
    · rename_i h
      rw [Bool.and_eq_true] at h
      have h1 := tab_len h.1
      have h2 := tab_len h.2
      have hk := fun k => kindL_len k ba (ps.map vc) bb (qs.map vc) (by rw [List.length_map]; exact h1) (by rw [List.length_map]; exact h2)
      have e0 : (diffTo 0 ba (ps.map vc) bb (qs.map vc)).length = 0 := rfl
      have e1 := diffTo_succ 0 ba (ps.map vc) bb (qs.map vc)
      have e2 := diffTo_succ 1 ba (ps.map vc) bb (qs.map vc)
      have e3 := diffTo_succ 2 ba (ps.map vc) bb (qs.map vc)
      have e4 := diffTo_succ 3 ba (ps.map vc) bb (qs.map vc)
      have e5 := diffTo_succ 4 ba (ps.map vc) bb (qs.map vc)
      have e6 := diffTo_succ 5 ba (ps.map vc) bb (qs.map vc)
      have e7 := diffTo_succ 6 ba (ps.map vc) bb (qs.map vc)
      have e8 := diffTo_succ 7 ba (ps.map vc) bb (qs.map vc)
      unfold diffL
      rw [e8, List.length_append, e7, List.length_append, e6, List.length_append, e5, List.length_append, e4, List.length_append, e3, List.length_append, e2, List.length_append, e1, List.length_append, e0]
      have k1 := hk (((0 : Nat) : Int) + 1)
      have k2 := hk (((1 : Nat) : Int) + 1)
      have k3 := hk (((2 : Nat) : Int) + 1)
      have k4 := hk (((3 : Nat) : Int) + 1)
      have k5 := hk (((4 : Nat) : Int) + 1)
      have k6 := hk (((5 : Nat) : Int) + 1)
      have k7 := hk (((6 : Nat) : Int) + 1)
      have k8 := hk (((7 : Nat) : Int) + 1)
      omega
    · exact Nat.zero_le _
  obtain ⟨ln, hln⟩ : ∃ ln, L.length = ln := ⟨_, rfl⟩
  rw [hln] at HR ho5 hLl ⊢
  have H5 : Hid (w5.ownsRow W4.heap.size 44 3 (.slice vo ln c1) ln (flatT L) ∧ Below W4.heap.size W4 w5 ∧ L.length = ln) := ⟨ho5, hb5, hln⟩
  obtain ⟨a0, a1, az⟩ := blk2 (blk_nx H4.out.2.2.2.2.1 hb5)
  obtain ⟨b0, b1, bz⟩ := blk2 (blk_nx H4.out.2.2.2.2.2.1 hb5)
  clear ho5 hb5 hL her hln s0 s1 HD
  go_wp2_with fail
  refine HR.out.mono ?_
  rintro e w6 ⟨ro, c2, rfl, ho6, hb6⟩
  have H6 : Hid (RowAt w6 (.slice ro ln c2) ln (flatT L) ∧ Below W4.heap.size W4 w6 ∧ w6.ownsRow W4.heap.size 44 3 (.slice vo ln c1) ln (flatT L)) := ⟨own_row ho6, nx_trans H5.out.2.1 hb6, own_below H5.out.1 hb6⟩
  clear ho6 hb6 a0 a1 az b0 b1 bz HR
  obtain ⟨a0, a1, az⟩ := blk2 (blk_nx H4.out.2.2.2.2.1 H6.out.2.1)
  obtain ⟨b0, b1, bz⟩ := blk2 (blk_nx H4.out.2.2.2.2.2.1 H6.out.2.1)
  obtain ⟨x0, x1, xz⟩ := blk2 (blk_nx H4.out.2.2.2.2.2.2.1 H6.out.2.1)
  obtain ⟨y0, y1, yz⟩ := blk2 (blk_nx H4.out.2.2.2.2.2.2.2 H6.out.2.1)
  have K1 := hideIt (Pr.still_true ba g1 ao ac n ps w6 (HP.out.1.nx (nx_trans H4.out.2.1 H6.out.2.1)) (H4.out.2.2.1.nx H6.out.2.1) HP.out.2.2.1 HP.out.2.2.2.2.2.2.1)
  go_wp2_with fail
  refine K1.out.mono ?_
  rintro e w7 ⟨rfl, hb7⟩
  have H7 : Hid (Below W4.heap.size W4 w7 ∧ RowAt w7 (.slice ro ln c2) ln (flatT L) ∧ w7.ownsRow W4.heap.size 44 3 (.slice vo ln c1) ln (flatT L)) := ⟨nx_trans H6.out.2.1 hb7, H6.out.1.nx hb7, own_below H6.out.2.2 hb7⟩
  clear hb7 a0 a1 az b0 b1 bz x0 x1 xz y0 y1 yz K1
  obtain ⟨b0, b1, bz⟩ := blk2 (blk_nx H4.out.2.2.2.2.2.1 H7.out.1)
  obtain ⟨y0, y1, yz⟩ := blk2 (blk_nx H4.out.2.2.2.2.2.2.2 H7.out.1)
  have K2 := hideIt (Pr.still_true bb g2 bo bc m qs w7 (HP.out.2.1.nx (nx_trans H4.out.2.1 H7.out.1)) (H4.out.2.2.2.1.nx H7.out.1) HP.out.2.2.2.1 HP.out.2.2.2.2.2.2.2.1)
  go_wp2_with fail
  refine K2.out.mono ?_
  rintro e w8 ⟨rfl, hb8⟩
  have H8 : Hid (Below W4.heap.size W4 w8 ∧ RowAt w8 (.slice ro ln c2) ln (flatT L) ∧ w8.ownsRow W4.heap.size 44 3 (.slice vo ln c1) ln (flatT L)) := ⟨nx_trans H7.out.1 hb8, H7.out.2.1.nx hb8, own_below H7.out.2.2 hb8⟩
  clear hb8 b0 b1 bz y0 y1 yz K2
  have K3 := hideIt (sameS vo ro ln c1 c2 L w8 (own_row H8.out.2.2) H8.out.2.1 H5.out.2.2 (by unfold maxLen; omega))
  go_wp2_with fail
  refine K3.out.mono ?_
  rintro e w9 ⟨rfl, hb9⟩
  have H9 : Hid (w9.ownsRow w.heap.size 44 3 (.slice vo ln c1) ln (flatT L) ∧ Below w.heap.size w w9) := ⟨own_mono (own_below H8.out.2.2 hb9) H4.out.2.1.size, nx_trans H4.out.2.1 (nx_trans H8.out.1 hb9)⟩
  clear hb9 K3
  go_wp2_with fail
  go_ret2
  exact ⟨L, vo, c1, by rw [H5.out.2.2]; rfl, by rw [H5.out.2.2]; exact H9.out.1, H9.out.2⟩
end Df
end Go.Proofs.Ythkilnhdhacpaaa
