import Derived.Test.YtohbonfngeblkaaGreatMnAg
namespace Go.Proofs.YtohbonfngeblkaaGreat
open Go.RowKit
namespace Lw
open Co
def cEnded (k : Int) (nm : ByteArray) (n : Int) (S : Sta) : Bool :=
  if k = 1 then decide ((cntG (isPoolV nm) S.srv : Int) ≤ n)
  else if k = 2 then decide ((cntG (isPoolV nm) S.srv : Int) = 0)
  else if k = 3 then decide ((S.srv.length : Int) ≤ n)
  else if k = 5 then !S.srv.any (othF nm n)
  else true
set_option maxRecDepth 20000 in
set_option maxHeartbeats 4000000 in
theorem ended1 (gp : Nat) (nm : ByteArray) (n : Int) (S : Sta) (X : Aux) (F : Nat → Prop) (w : World) (h : DeskAt w gp S X F) (hq : S.srv.length ≤ 549755813888) :
    Calls Tryz.prog 87 #[.pointer (some ⟨gp, 0, none⟩), stA 1 nm n] w fun e w' => e = .returned (.bool (cEnded 1 nm n S)) ∧ Below w.heap.size w w' := by
  obtain ⟨po, pc, so, sc, wo, wc, yo, yc, ho, hc, hx⟩ := h.ex
  have hgplt : gp < w.heap.size := h.lt gp h.gp
  obtain ⟨n2, hn2⟩ : ∃ n, S.srv.length = n := ⟨_, rfl⟩
  have HN := hideIt hn2
  obtain ⟨W0, hW0⟩ : ∃ W0, W0 = w.alloc (bSt 1 nm n) := ⟨_, rfl⟩
  have hbW : Below w.heap.size w W0 := by rw [hW0]; exact nx_alloc _ _
  have K0 : Hid (W0 = w.alloc (bSt 1 nm n) ∧ W0.heap[w.heap.size]? = some (bSt 1 nm n) ∧ Below w.heap.size w W0 ∧ w.heap.size < W0.heap.size) := ⟨hW0, by rw [hW0]; exact heap_alloc_at _ _ rfl, hbW, by rw [hW0]; simp⟩
  have hd0 := hx.nx hgplt hbW
  have HRW : Hid (RowAt w (.slice so n2 sc) n2 (flatV S.srv)) := by have := own_row hx.s.own; rw [hn2] at this; exact this
  rw [hn2] at hd0 hq
  obtain ⟨g0, g1, g2, g3, g4, gz⟩ := blk5d hd0
  obtain ⟨b0, b1, b2, bz⟩ := blk3d K0.out.2.1
  have hgp0 : gp < W0.heap.size := Nat.lt_of_lt_of_le hgplt hbW.size
  have hw0 : w.heap.size < W0.heap.size := K0.out.2.2.2
  obtain ⟨q, hqq⟩ : ∃ q, cntG (isPoolV nm) S.srv = q := ⟨_, rfl⟩
  have hql : q ≤ n2 := by rw [← hqq, ← hn2]; exact List.length_filter_le _ _
  have HE : Hid (cEnded 1 nm n S = (decide ((q : Int) ≤ n))) := by
    show _ = _
    unfold cEnded
    rw [hqq]
    rfl
  have HC : Hid (∀ u, Below W0.heap.size W0 u → Calls Tryz.prog 101 #[.slice so n2 sc, .string nm] u fun e w' => e = .returned (.int .i64 (q : Int)) ∧ Below u.heap.size u w') := by
    intro u hu
    rw [← hqq]
    exact cCountOf so n2 sc nm S.srv u ((HRW.out.nx hbW).nx hu) HN.out (by omega)
  clear h hx hn2 hW0 hbW hd0 hqq
  go_enter Tryz.func87, Tryz.ntmps87
  go_upto_region 1 with fail
  rw [← K0.out.1]
  go_upto_region 3 with fail
  go_cut [4] (fun v wx => v = .bool (decide ((q : Int) ≤ n)) ∧ ∃ wy, Hid (Below W0.heap.size W0 wy) ∧ wy = wx)
  case first =>
    go_region_held3 (fun w' => w'.cell? ⟨gp, 2, none⟩ = some (.slice so n2 sc) ∧ w'.cell? ⟨w.heap.size, 1, none⟩ = some (.string nm) ∧ w'.cell? ⟨w.heap.size, 2, none⟩ = some (.int .i64 n)) (go_keep)
      ((go_at_call 101; refine (HC.out _ ((Below.refl _ _).drew)).mono ?_; rintro e w5 ⟨rfl, hb5⟩; have HB5 : Hid (Below W0.heap.size W0 w5) := nx_trans (Below.refl _ _).drew hb5; have q1 := (HB5.out.cell (p := ⟨gp, 2, none⟩) hgp0).trans g2; have q2 := (HB5.out.cell (p := ⟨w.heap.size, 1, none⟩) hw0).trans b1; have q3 := (HB5.out.cell (p := ⟨w.heap.size, 2, none⟩) hw0).trans b2; clear hb5))
    all_goals
      go_wp2_with fail
      go_meet
      exact ⟨rfl, _, HB5.out, rfl⟩
  case rest =>
    obtain ⟨rfl, wy, HB5, rfl⟩ := hcut
    clear g0 g1 g2 g3 g4 gz b0 b1 b2 bz
    go_wp2_with fail
    go_ret
    exact ⟨by rw [HE.out]; rfl, nx_trans K0.out.2.2.1 HB5.out⟩
set_option maxRecDepth 20000 in
set_option maxHeartbeats 4000000 in
theorem ended2 (gp : Nat) (nm : ByteArray) (n : Int) (S : Sta) (X : Aux) (F : Nat → Prop) (w : World) (h : DeskAt w gp S X F) (hq : S.srv.length ≤ 549755813888) :
    Calls Tryz.prog 87 #[.pointer (some ⟨gp, 0, none⟩), stA 2 nm n] w fun e w' => e = .returned (.bool (cEnded 2 nm n S)) ∧ Below w.heap.size w w' := by
  obtain ⟨po, pc, so, sc, wo, wc, yo, yc, ho, hc, hx⟩ := h.ex
  have hgplt : gp < w.heap.size := h.lt gp h.gp
  obtain ⟨n2, hn2⟩ : ∃ n, S.srv.length = n := ⟨_, rfl⟩
  have HN := hideIt hn2
  obtain ⟨W0, hW0⟩ : ∃ W0, W0 = w.alloc (bSt 2 nm n) := ⟨_, rfl⟩
  have hbW : Below w.heap.size w W0 := by rw [hW0]; exact nx_alloc _ _
  have K0 : Hid (W0 = w.alloc (bSt 2 nm n) ∧ W0.heap[w.heap.size]? = some (bSt 2 nm n) ∧ Below w.heap.size w W0 ∧ w.heap.size < W0.heap.size) := ⟨hW0, by rw [hW0]; exact heap_alloc_at _ _ rfl, hbW, by rw [hW0]; simp⟩
  have hd0 := hx.nx hgplt hbW
  have HRW : Hid (RowAt w (.slice so n2 sc) n2 (flatV S.srv)) := by have := own_row hx.s.own; rw [hn2] at this; exact this
  rw [hn2] at hd0 hq
  obtain ⟨g0, g1, g2, g3, g4, gz⟩ := blk5d hd0
  obtain ⟨b0, b1, b2, bz⟩ := blk3d K0.out.2.1
  have hgp0 : gp < W0.heap.size := Nat.lt_of_lt_of_le hgplt hbW.size
  have hw0 : w.heap.size < W0.heap.size := K0.out.2.2.2
  obtain ⟨q, hqq⟩ : ∃ q, cntG (isPoolV nm) S.srv = q := ⟨_, rfl⟩
  have hql : q ≤ n2 := by rw [← hqq, ← hn2]; exact List.length_filter_le _ _
  have HE : Hid (cEnded 2 nm n S = ((q : Int) == 0)) := by
    show _ = _
    unfold cEnded
    rw [hqq]
    simp [BEq.beq]
  have HC : Hid (∀ u, Below W0.heap.size W0 u → Calls Tryz.prog 101 #[.slice so n2 sc, .string nm] u fun e w' => e = .returned (.int .i64 (q : Int)) ∧ Below u.heap.size u w') := by
    intro u hu
    rw [← hqq]
    exact cCountOf so n2 sc nm S.srv u ((HRW.out.nx hbW).nx hu) HN.out (by omega)
  clear h hx hn2 hW0 hbW hd0 hqq
  go_enter Tryz.func87, Tryz.ntmps87
  go_upto_region 1 with fail
  rw [← K0.out.1]
  go_upto_region 5 with fail
  go_cut [4] (fun v wx => v = .bool ((q : Int) == 0) ∧ ∃ wy, Hid (Below W0.heap.size W0 wy) ∧ wy = wx)
  case first =>
    go_region_held3 (fun w' => w'.cell? ⟨gp, 2, none⟩ = some (.slice so n2 sc) ∧ w'.cell? ⟨w.heap.size, 1, none⟩ = some (.string nm)) (go_keep)
      ((go_at_call 101; refine (HC.out _ ((Below.refl _ _).drew)).mono ?_; rintro e w5 ⟨rfl, hb5⟩; have HB5 : Hid (Below W0.heap.size W0 w5) := nx_trans (Below.refl _ _).drew hb5; have q1 := (HB5.out.cell (p := ⟨gp, 2, none⟩) hgp0).trans g2; have q2 := (HB5.out.cell (p := ⟨w.heap.size, 1, none⟩) hw0).trans b1; clear hb5))
    all_goals
      go_wp2_with fail
      go_meet
      exact ⟨rfl, _, HB5.out, rfl⟩
  case rest =>
    obtain ⟨rfl, wy, HB5, rfl⟩ := hcut
    clear g0 g1 g2 g3 g4 gz b0 b1 b2 bz
    go_wp2_with fail
    go_ret
    exact ⟨by rw [HE.out]; rfl, nx_trans K0.out.2.2.1 HB5.out⟩
set_option maxRecDepth 20000 in
set_option maxHeartbeats 4000000 in
theorem ended3 (gp : Nat) (nm : ByteArray) (n : Int) (S : Sta) (X : Aux) (F : Nat → Prop) (w : World) (h : DeskAt w gp S X F) (_hq : S.srv.length ≤ 549755813888) :
    Calls Tryz.prog 87 #[.pointer (some ⟨gp, 0, none⟩), stA 3 nm n] w fun e w' => e = .returned (.bool (cEnded 3 nm n S)) ∧ Below w.heap.size w w' := by
  obtain ⟨po, pc, so, sc, wo, wc, yo, yc, ho, hc, hx⟩ := h.ex
  have hgplt : gp < w.heap.size := h.lt gp h.gp
  obtain ⟨n2, hn2⟩ : ∃ n, S.srv.length = n := ⟨_, rfl⟩
  have HN := hideIt hn2
  obtain ⟨W0, hW0⟩ : ∃ W0, W0 = w.alloc (bSt 3 nm n) := ⟨_, rfl⟩
  have hbW : Below w.heap.size w W0 := by rw [hW0]; exact nx_alloc _ _
  have K0 : Hid (W0 = w.alloc (bSt 3 nm n) ∧ W0.heap[w.heap.size]? = some (bSt 3 nm n) ∧ Below w.heap.size w W0 ∧ w.heap.size < W0.heap.size) := ⟨hW0, by rw [hW0]; exact heap_alloc_at _ _ rfl, hbW, by rw [hW0]; simp⟩
  have hd0 := hx.nx hgplt hbW
  rw [hn2] at hd0
  obtain ⟨g0, g1, g2, g3, g4, gz⟩ := blk5d hd0
  obtain ⟨b0, b1, b2, bz⟩ := blk3d K0.out.2.1
  have HE : Hid (cEnded 3 nm n S = decide ((n2 : Int) ≤ n)) := by
    show _ = _
    unfold cEnded
    rw [hn2]
    rfl
  clear h hx hn2 hW0 hbW hd0
  go_enter Tryz.func87, Tryz.ntmps87
  go_upto_region 1 with fail
  rw [← K0.out.1]
  go_upto_region 7 with fail
  go_quiet (fail)
  go_wp2_with fail
  go_ret
  exact ⟨by rw [HE.out]; rfl, below_drewN K0.out.2.2.1 _⟩
set_option maxRecDepth 20000 in
set_option maxHeartbeats 4000000 in
theorem ended4 (gp : Nat) (nm : ByteArray) (n : Int) (S : Sta) (X : Aux) (F : Nat → Prop) (w : World) (h : DeskAt w gp S X F) (_hq : S.srv.length ≤ 549755813888) :
    Calls Tryz.prog 87 #[.pointer (some ⟨gp, 0, none⟩), stA 4 nm n] w fun e w' => e = .returned (.bool (cEnded 4 nm n S)) ∧ Below w.heap.size w w' := by
  obtain ⟨po, pc, so, sc, wo, wc, yo, yc, ho, hc, hx⟩ := h.ex
  have hgplt : gp < w.heap.size := h.lt gp h.gp
  obtain ⟨n2, hn2⟩ : ∃ n, S.srv.length = n := ⟨_, rfl⟩
  obtain ⟨W0, hW0⟩ : ∃ W0, W0 = w.alloc (bSt 4 nm n) := ⟨_, rfl⟩
  have hbW : Below w.heap.size w W0 := by rw [hW0]; exact nx_alloc _ _
  have K0 : Hid (W0 = w.alloc (bSt 4 nm n) ∧ W0.heap[w.heap.size]? = some (bSt 4 nm n) ∧ Below w.heap.size w W0 ∧ w.heap.size < W0.heap.size) := ⟨hW0, by rw [hW0]; exact heap_alloc_at _ _ rfl, hbW, by rw [hW0]; simp⟩
  have hd0 := hx.nx hgplt hbW
  rw [hn2] at hd0
  obtain ⟨g0, g1, g2, g3, g4, gz⟩ := blk5d hd0
  obtain ⟨b0, b1, b2, bz⟩ := blk3d K0.out.2.1
  clear h hx hn2 hW0 hbW hd0
  go_enter Tryz.func87, Tryz.ntmps87
  go_upto_region 1 with fail
  rw [← K0.out.1]
  go_wp2_with fail
  go_ret
  exact ⟨rfl, K0.out.2.2.1⟩
set_option maxRecDepth 20000 in
set_option maxHeartbeats 4000000 in
theorem ended5 (gp : Nat) (nm : ByteArray) (n : Int) (S : Sta) (X : Aux) (F : Nat → Prop) (w : World) (h : DeskAt w gp S X F) (hq : S.srv.length ≤ 549755813888) :
    Calls Tryz.prog 87 #[.pointer (some ⟨gp, 0, none⟩), stA 5 nm n] w fun e w' => e = .returned (.bool (cEnded 5 nm n S)) ∧ Below w.heap.size w w' := by
  obtain ⟨po, pc, so, sc, wo, wc, yo, yc, ho, hc, hx⟩ := h.ex
  have hgplt : gp < w.heap.size := h.lt gp h.gp
  obtain ⟨n2, hn2⟩ : ∃ n, S.srv.length = n := ⟨_, rfl⟩
  have HN := hideIt hn2
  obtain ⟨W0, hW0⟩ : ∃ W0, W0 = w.alloc (bSt 5 nm n) := ⟨_, rfl⟩
  have hbW : Below w.heap.size w W0 := by rw [hW0]; exact nx_alloc _ _
  have K0 : Hid (W0 = w.alloc (bSt 5 nm n) ∧ W0.heap[w.heap.size]? = some (bSt 5 nm n) ∧ Below w.heap.size w W0 ∧ w.heap.size < W0.heap.size) := ⟨hW0, by rw [hW0]; exact heap_alloc_at _ _ rfl, hbW, by rw [hW0]; simp⟩
  have hd0 := hx.nx hgplt hbW
  have HRW : Hid (RowAt w (.slice so n2 sc) n2 (flatV S.srv)) := by have := own_row hx.s.own; rw [hn2] at this; exact this
  rw [hn2] at hd0 hq
  obtain ⟨g0, g1, g2, g3, g4, gz⟩ := blk5d hd0
  obtain ⟨b0, b1, b2, bz⟩ := blk3d K0.out.2.1
  have hgp0 : gp < W0.heap.size := Nat.lt_of_lt_of_le hgplt hbW.size
  have hw0 : w.heap.size < W0.heap.size := K0.out.2.2.2
  obtain ⟨qb, hqq⟩ : ∃ q, S.srv.any (othF nm n) = q := ⟨_, rfl⟩
  have HE : Hid (cEnded 5 nm n S = !qb) := by
    show _ = _
    unfold cEnded
    rw [hqq]
    rfl
  have HC : Hid (∀ u, Below W0.heap.size W0 u → Calls Tryz.prog 107 #[.slice so n2 sc, .string nm, .int .i64 n] u fun e w' => e = .returned (.bool qb) ∧ Below u.heap.size u w') := by
    intro u hu
    rw [← hqq]
    exact cAnyOther so n2 sc nm n S.srv u ((HRW.out.nx hbW).nx hu) HN.out (by unfold maxLen; omega)
  clear h hx hn2 hW0 hbW hd0 hqq
  go_enter Tryz.func87, Tryz.ntmps87
  go_upto_region 1 with fail
  rw [← K0.out.1]
  go_upto_region 9 with fail
  go_cut [4] (fun v wx => v = .bool (!qb) ∧ ∃ wy, Hid (Below W0.heap.size W0 wy) ∧ wy = wx)
  case first =>
    go_region_held3 (fun w' => w'.cell? ⟨gp, 2, none⟩ = some (.slice so n2 sc) ∧ w'.cell? ⟨w.heap.size, 1, none⟩ = some (.string nm) ∧ w'.cell? ⟨w.heap.size, 2, none⟩ = some (.int .i64 n)) (go_keep)
      ((go_at_call 107; refine (HC.out _ ((Below.refl _ _).drew)).mono ?_; rintro e w5 ⟨rfl, hb5⟩; have HB5 : Hid (Below W0.heap.size W0 w5) := nx_trans (Below.refl _ _).drew hb5; have q1 := (HB5.out.cell (p := ⟨gp, 2, none⟩) hgp0).trans g2; have q2 := (HB5.out.cell (p := ⟨w.heap.size, 1, none⟩) hw0).trans b1; have q3 := (HB5.out.cell (p := ⟨w.heap.size, 2, none⟩) hw0).trans b2; clear hb5))
    all_goals
      go_wp2_with fail
      go_meet
      exact ⟨rfl, _, HB5.out, rfl⟩
  case rest =>
    obtain ⟨rfl, wy, HB5, rfl⟩ := hcut
    clear g0 g1 g2 g3 g4 gz b0 b1 b2 bz
    go_wp2_with fail
    go_ret
    exact ⟨by rw [HE.out]; rfl, nx_trans K0.out.2.2.1 HB5.out⟩
set_option maxRecDepth 20000 in
set_option maxHeartbeats 4000000 in
theorem ended6 (gp : Nat) (nm : ByteArray) (n : Int) (S : Sta) (X : Aux) (F : Nat → Prop) (w : World) (h : DeskAt w gp S X F) (_hq : S.srv.length ≤ 549755813888) :
    Calls Tryz.prog 87 #[.pointer (some ⟨gp, 0, none⟩), stA 6 nm n] w fun e w' => e = .returned (.bool (cEnded 6 nm n S)) ∧ Below w.heap.size w w' := by
  obtain ⟨po, pc, so, sc, wo, wc, yo, yc, ho, hc, hx⟩ := h.ex
  have hgplt : gp < w.heap.size := h.lt gp h.gp
  obtain ⟨n2, hn2⟩ : ∃ n, S.srv.length = n := ⟨_, rfl⟩
  obtain ⟨W0, hW0⟩ : ∃ W0, W0 = w.alloc (bSt 6 nm n) := ⟨_, rfl⟩
  have hbW : Below w.heap.size w W0 := by rw [hW0]; exact nx_alloc _ _
  have K0 : Hid (W0 = w.alloc (bSt 6 nm n) ∧ W0.heap[w.heap.size]? = some (bSt 6 nm n) ∧ Below w.heap.size w W0 ∧ w.heap.size < W0.heap.size) := ⟨hW0, by rw [hW0]; exact heap_alloc_at _ _ rfl, hbW, by rw [hW0]; simp⟩
  have hd0 := hx.nx hgplt hbW
  rw [hn2] at hd0
  obtain ⟨g0, g1, g2, g3, g4, gz⟩ := blk5d hd0
  obtain ⟨b0, b1, b2, bz⟩ := blk3d K0.out.2.1
  clear h hx hn2 hW0 hbW hd0
  go_enter Tryz.func87, Tryz.ntmps87
  go_upto_region 1 with fail
  rw [← K0.out.1]
  go_wp2_with fail
  go_ret
  exact ⟨rfl, K0.out.2.2.1⟩
set_option maxRecDepth 20000 in
set_option maxHeartbeats 4000000 in
theorem ended7 (gp : Nat) (nm : ByteArray) (n : Int) (S : Sta) (X : Aux) (F : Nat → Prop) (w : World) (h : DeskAt w gp S X F) (_hq : S.srv.length ≤ 549755813888) :
    Calls Tryz.prog 87 #[.pointer (some ⟨gp, 0, none⟩), stA 7 nm n] w fun e w' => e = .returned (.bool (cEnded 7 nm n S)) ∧ Below w.heap.size w w' := by
  obtain ⟨po, pc, so, sc, wo, wc, yo, yc, ho, hc, hx⟩ := h.ex
  have hgplt : gp < w.heap.size := h.lt gp h.gp
  obtain ⟨n2, hn2⟩ : ∃ n, S.srv.length = n := ⟨_, rfl⟩
  obtain ⟨W0, hW0⟩ : ∃ W0, W0 = w.alloc (bSt 7 nm n) := ⟨_, rfl⟩
  have hbW : Below w.heap.size w W0 := by rw [hW0]; exact nx_alloc _ _
  have K0 : Hid (W0 = w.alloc (bSt 7 nm n) ∧ W0.heap[w.heap.size]? = some (bSt 7 nm n) ∧ Below w.heap.size w W0 ∧ w.heap.size < W0.heap.size) := ⟨hW0, by rw [hW0]; exact heap_alloc_at _ _ rfl, hbW, by rw [hW0]; simp⟩
  have hd0 := hx.nx hgplt hbW
  rw [hn2] at hd0
  obtain ⟨g0, g1, g2, g3, g4, gz⟩ := blk5d hd0
  obtain ⟨b0, b1, b2, bz⟩ := blk3d K0.out.2.1
  clear h hx hn2 hW0 hbW hd0
  go_enter Tryz.func87, Tryz.ntmps87
  go_upto_region 1 with fail
  rw [← K0.out.1]
  go_wp2_with fail
  go_ret
  exact ⟨rfl, K0.out.2.2.1⟩
set_option maxRecDepth 20000 in
set_option maxHeartbeats 4000000 in
theorem ended8 (gp : Nat) (nm : ByteArray) (n : Int) (S : Sta) (X : Aux) (F : Nat → Prop) (w : World) (h : DeskAt w gp S X F) (_hq : S.srv.length ≤ 549755813888) :
    Calls Tryz.prog 87 #[.pointer (some ⟨gp, 0, none⟩), stA 8 nm n] w fun e w' => e = .returned (.bool (cEnded 8 nm n S)) ∧ Below w.heap.size w w' := by
  obtain ⟨po, pc, so, sc, wo, wc, yo, yc, ho, hc, hx⟩ := h.ex
  have hgplt : gp < w.heap.size := h.lt gp h.gp
  obtain ⟨n2, hn2⟩ : ∃ n, S.srv.length = n := ⟨_, rfl⟩
  obtain ⟨W0, hW0⟩ : ∃ W0, W0 = w.alloc (bSt 8 nm n) := ⟨_, rfl⟩
  have hbW : Below w.heap.size w W0 := by rw [hW0]; exact nx_alloc _ _
  have K0 : Hid (W0 = w.alloc (bSt 8 nm n) ∧ W0.heap[w.heap.size]? = some (bSt 8 nm n) ∧ Below w.heap.size w W0 ∧ w.heap.size < W0.heap.size) := ⟨hW0, by rw [hW0]; exact heap_alloc_at _ _ rfl, hbW, by rw [hW0]; simp⟩
  have hd0 := hx.nx hgplt hbW
  rw [hn2] at hd0
  obtain ⟨g0, g1, g2, g3, g4, gz⟩ := blk5d hd0
  obtain ⟨b0, b1, b2, bz⟩ := blk3d K0.out.2.1
  clear h hx hn2 hW0 hbW hd0
  go_enter Tryz.func87, Tryz.ntmps87
  go_upto_region 1 with fail
  rw [← K0.out.1]
  go_wp2_with fail
  go_ret
  exact ⟨rfl, K0.out.2.2.1⟩
def okKind (k : Int) : Prop := 1 ≤ k ∧ k ≤ 8
theorem begin_any (gp : Nat) (k : Int) (nm : ByteArray) (n : Int) (S : Sta) (X : Aux) (F : Nat → Prop) (w : World) (hk : okKind k) (h : DeskAt w gp S X F) (hok : Ok S X.op) (hq1 : S.pools.length ≤ 1000) (hN : 0 ≤ n ∧ n ≤ 1000000) :
    Calls Tryz.prog 86 #[.pointer (some ⟨gp, 0, none⟩), stA k nm n] w fun e w' => (∃ x, e = .returned x) ∧ Moved w w' gp (cBegin k nm n S) X F := by
  obtain ⟨h1, h2⟩ := hk
  have h3 : k = 1 ∨ k = 2 ∨ k = 3 ∨ k = 4 ∨ k = 5 ∨ k = 6 ∨ k = 7 ∨ k = 8 := by omega
  rcases h3 with rfl | rfl | rfl | rfl | rfl | rfl | rfl | rfl
  · exact begin1 gp nm n S X F w h hok hq1 hN
  · exact begin2 gp nm n S X F w h hok hq1 hN
  · exact begin3 gp nm n S X F w h hok hq1 hN
  · exact begin4 gp nm n S X F w h hok hq1 hN
  · exact begin5 gp nm n S X F w h hok hq1 hN
  · exact begin6 gp nm n S X F w h hok hq1 hN
  · exact begin7 gp nm n S X F w h hok hq1 hN
  · exact begin8 gp nm n S X F w h hok hq1 hN
theorem ended_any (gp : Nat) (k : Int) (nm : ByteArray) (n : Int) (S : Sta) (X : Aux) (F : Nat → Prop) (w : World) (hk : okKind k) (h : DeskAt w gp S X F) (hq : S.srv.length ≤ 549755813888) :
    Calls Tryz.prog 87 #[.pointer (some ⟨gp, 0, none⟩), stA k nm n] w fun e w' => e = .returned (.bool (cEnded k nm n S)) ∧ Below w.heap.size w w' := by
  obtain ⟨h1, h2⟩ := hk
  have h3 : k = 1 ∨ k = 2 ∨ k = 3 ∨ k = 4 ∨ k = 5 ∨ k = 6 ∨ k = 7 ∨ k = 8 := by omega
  rcases h3 with rfl | rfl | rfl | rfl | rfl | rfl | rfl | rfl
  · exact ended1 gp nm n S X F w h hq
  · exact ended2 gp nm n S X F w h hq
  · exact ended3 gp nm n S X F w h hq
  · exact ended4 gp nm n S X F w h hq
  · exact ended5 gp nm n S X F w h hq
  · exact ended6 gp nm n S X F w h hq
  · exact ended7 gp nm n S X F w h hq
  · exact ended8 gp nm n S X F w h hq
theorem begin_less (k : Int) (nm : ByteArray) (n : Int) (S : Sta) : Less (tabS S (takeT k nm n S.bud S.pools)) (cBegin k nm n S) := by
  unfold cBegin
  simp only
  split
  · exact thinP_less _ _ _
  · split
    · exact (thinL_less _ _ _).trans (thinP_less _ _ _)
    · split
      · exact thinA_less _ _
      · split
        · exact shutF_less _ _ _
        · split
          · exact thinL_less _ _ _
          · exact Less.refl _
theorem take_len (k : Int) (nm : ByteArray) (n b : Int) (ps : List Pl) : (takeT k nm n b ps).2.length ≤ ps.length + 1 := by
  unfold takeT
  split
  · simp
  · split
    · have := List.length_filter_le (othN nm) ps; simp only; omega
    · split
      · rw [insP_len2]; exact Nat.le_refl _
      · split
        · exact chgP_len _ _ _ _
        · simp
theorem begin_ok {k : Int} {nm : ByteArray} {n : Int} {S : Sta} {op : Int} (hok : Ok S op) (hq1 : S.pools.length ≤ 1000) : Ok (cBegin k nm n S) op := by
  refine (begin_less k nm n S).ok ⟨⟨hok.inv.ids, hok.inv.low, hok.inv.op0, hok.inv.cli⟩, hok.pot, ?_⟩
  have := take_len k nm n S.bud S.pools
  show (takeT k nm n S.bud S.pools).2.length ≤ _
  omega
def cTurnS (k : Int) (nm : ByteArray) (n : Int) (bg : Bool) (S : Sta) (op : Int) : Sta × Int :=
  cServe (if bg = true then S else cBegin k nm n S).wts.length (if bg = true then S else cBegin k nm n S) op
set_option maxRecDepth 20000 in
set_option maxHeartbeats 4000000 in
theorem dTurn (gp : Nat) (k : Int) (nm : ByteArray) (n : Int) (bg : Bool) (S : Sta) (X : Aux) (F : Nat → Prop) (w : World) (hk : okKind k) (h : DeskAt w gp S X F) (hok : Ok S X.op) (hq1 : S.pools.length ≤ 1000) (hN : 0 ≤ n ∧ n ≤ 1000000) :
    Calls Tryz.prog 65 #[.pointer (some ⟨gp, 0, none⟩), stA k nm n, .bool bg] w fun e w' => e = .returned (.bool (cEnded k nm n (cTurnS k nm n bg S X.op).1)) ∧ Moved w w' gp (cTurnS k nm n bg S X.op).1 { X with op := (cTurnS k nm n bg S X.op).2 } F := by
  obtain ⟨W0, hW0⟩ : ∃ W0, W0 = w.alloc (bSt k nm n) := ⟨_, rfl⟩
  have hbW : Below w.heap.size w W0 := by rw [hW0]; exact nx_alloc _ _
  have K0 : Hid (W0 = w.alloc (bSt k nm n) ∧ W0.heap[w.heap.size]? = some (bSt k nm n) ∧ Below w.heap.size w W0 ∧ w.heap.size < W0.heap.size) := ⟨hW0, by rw [hW0]; exact heap_alloc_at _ _ rfl, hbW, by rw [hW0]; simp⟩
  have HD0 : Hid (DeskAt W0 gp S X F) := h.keep (G := fun _ => False) (Chg.of_below hbW) (fun _ _ h => h)
  have HNF : Hid (¬ F w.heap.size) := fun hf => by have := h.lt _ hf; omega
  have HBG := hideIt (begin_any gp k nm n S X F W0 hk HD0.out hok hq1 hN)
  have HOK := hideIt hok
  have HQ1 := hideIt hq1
  have HKK := hideIt hk
  have HSV : Hid (∀ (T : Sta) (G : Nat → Prop) (u : World), DeskAt u gp T X G → Ok T X.op → Calls Tryz.prog 70 #[.pointer (some ⟨gp, 0, none⟩)] u fun e w' => (∃ x, e = .returned x) ∧ Moved u w' gp (cServe T.wts.length T X.op).1 { X with op := (cServe T.wts.length T X.op).2 } G) := fun T G u hd hk => dServe gp T X G u hd hk
  have HEN : Hid (∀ (T : Sta) (Z : Aux) (G : Nat → Prop) (u : World), DeskAt u gp T Z G → T.srv.length ≤ 549755813888 → Calls Tryz.prog 87 #[.pointer (some ⟨gp, 0, none⟩), stA k nm n] u fun e w' => e = .returned (.bool (cEnded k nm n T)) ∧ Below u.heap.size u w') := fun T Z G u hd hq => ended_any gp k nm n T Z G u HKK.out hd hq
  clear h hok hq1 hN hW0 hbW hk
  cases bg with
  | true =>
    have HOT := hideIt (HOK.out.serve S.wts.length)
    obtain ⟨⟨T, t⟩, hT⟩ : ∃ y, cServe S.wts.length S X.op = y := ⟨_, rfl⟩
    have HT : Hid (cTurnS k nm n true S X.op = (T, t)) := hT
    have HS1 := hideIt (HSV.out S F W0 HD0.out HOK.out)
    rw [hT] at HS1 HOT
    simp only at HS1 HOT
    clear hT
    go_enter Tryz.func65, Tryz.ntmps65
    go_upto_region 1 with fail
    rw [← K0.out.1]
    go_wp2_with fail
    refine HS1.out.mono ?_
    rintro e w2 ⟨⟨x, rfl⟩, hm⟩
    have HM := hideIt hm
    obtain ⟨F2, hd2, hF2, hch⟩ := hm
    have hs2 : w2.heap[w.heap.size]? = some (bSt k nm n) := (hch.block _ K0.out.2.2.2 HNF.out).trans K0.out.2.1
    have HE := hideIt (HEN.out T _ F2 w2 hd2 (by have h1 := HOT.out.inv.len; have h2 := HOT.out.pot; unfold pot at h2; simp only at h2; omega))
    obtain ⟨b0, b1, b2, bz⟩ := blk3d hs2
    clear hd2 hF2 hch hs2
    go_wp2_with fail
    refine HE.out.mono ?_
    rintro e w3 ⟨rfl, hb3⟩
    have KF := hideIt (Moved.after K0.out.2.2.1 (HM.out.below hb3))
    clear hb3 b0 b1 b2 bz
    go_wp2_with fail
    go_ret
    rw [HT.out]
    exact ⟨rfl, KF.out⟩
  | false =>
    have HOB := hideIt (begin_ok (k := k) (nm := nm) (n := n) HOK.out HQ1.out)
    obtain ⟨B1, hB1⟩ : ∃ B1, cBegin k nm n S = B1 := ⟨_, rfl⟩
    rw [hB1] at HBG HOB
    have HOT := hideIt (HOB.out.serve B1.wts.length)
    obtain ⟨⟨T, t⟩, hT⟩ : ∃ y, cServe B1.wts.length B1 X.op = y := ⟨_, rfl⟩
    have HT : Hid (cTurnS k nm n false S X.op = (T, t)) := by
      show _ = _
      rw [← hT, ← hB1]; rfl
    have HTT := hideIt hT
    rw [hT] at HOT
    simp only at HOT
    clear hT hB1
    go_enter Tryz.func65, Tryz.ntmps65
    go_upto_region 1 with fail
    rw [← K0.out.1]
    obtain ⟨b0, b1, b2, bz⟩ := blk3d K0.out.2.1
    go_wp2_with fail
    refine HBG.out.mono ?_
    rintro e w1 ⟨⟨x, rfl⟩, hm1⟩
    obtain ⟨F1, hd1, hnx1⟩ := hm1.step
    have hs1 := HSV.out B1 F1 w1 hd1 HOB.out
    rw [HTT.out] at hs1
    have HS1 := hideIt hs1
    have HNX := hideIt hnx1
    clear hm1 hd1 hnx1 hs1 b0 b1 b2 bz
    simp only at HS1
    go_wp2_with fail
    refine HS1.out.mono ?_
    rintro e w2 ⟨⟨x, rfl⟩, hm⟩
    have HM := hideIt (HNX.out _ _ _ hm)
    have hm' := HM.out
    obtain ⟨F2, hd2, hF2, hch⟩ := hm'
    have hs2 : w2.heap[w.heap.size]? = some (bSt k nm n) := (hch.block _ K0.out.2.2.2 HNF.out).trans K0.out.2.1
    have HE := hideIt (HEN.out T _ F2 w2 hd2 (by have h1 := HOT.out.inv.len; have h2 := HOT.out.pot; unfold pot at h2; simp only at h2; omega))
    obtain ⟨b0, b1, b2, bz⟩ := blk3d hs2
    clear hm hd2 hF2 hch hs2
    go_wp2_with fail
    refine HE.out.mono ?_
    rintro e w3 ⟨rfl, hb3⟩
    have KF := hideIt (Moved.after K0.out.2.2.1 (HM.out.below hb3))
    clear hb3 b0 b1 b2 bz
    go_wp2_with fail
    go_ret
    rw [HT.out]
    exact ⟨rfl, KF.out⟩
end Lw
end Go.Proofs.YtohbonfngeblkaaGreat
