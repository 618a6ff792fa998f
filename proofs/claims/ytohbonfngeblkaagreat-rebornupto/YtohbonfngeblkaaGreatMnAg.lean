import Derived.Test.YtohbonfngeblkaaGreatMnAf
namespace Go.Proofs.YtohbonfngeblkaaGreat
open Go.RowKit
namespace Lw
open Co
theorem moved_tab {w w' : World} {gp : Nat} {S : Sta} {X : Aux} {F : Nat → Prop} {po : Option Addr} {pc : Nat} {so : Option Addr} {sc : Nat} {wo : Option Addr} {wc : Nat} {yo : Option Addr} {yc : Nat} {ho : Option Addr} {hc B : Nat} (h : DeskX w gp S X F po pc so sc wo wc yo yc ho hc) (hg : F gp) (hlt : ∀ x, F x → x < w.heap.size) (b : Int) (ps : List Pl) (po' : Option Addr) (pc' : Nat)
    (hbox : w'.heap[gp]? = some (bDesk b po' ps.length pc' so S.srv.length sc wo S.wts.length wc X.op ⟨.slice yo S.plan.length yc, S.begun, S.back, X.hb, .slice ho X.hps.length hc⟩))
    (hown : w'.ownsRow B 75 4 (.slice po' ps.length pc') ps.length (flatP ps)) (hblk : ∀ g, (Value.slice po' ps.length pc').ownBlock = some g → w.heap.size ≤ g)
    (hch : Chg (fun y => y = gp) w w') : Moved w w' gp { S with bud := b, pools := ps } X F := by
  have hsz : ∀ g, F g → Nxt F w w' g := fun g hg => ⟨.inl hg, Nat.lt_of_lt_of_le (hlt g hg) hch.size⟩
  have hk : ∀ {ty : TypeId} {sz n : Nat} {v : Value} {cs : List Value}, Held w F ty sz v n cs → ty ≠ 82 → Held w' (Nxt F w w') ty sz v n cs := by
    intro ty sz n v cs hh h2
    refine ⟨ownG_heap hh.own (fun j hj => hch.block j (hlt j (hh.blk j hj)) ?_), fun g hg => hsz g (hh.blk g hg)⟩
    intro e
    exact own_boxD hh.own h.box h2 (by rw [← show j = gp from e]; exact hj)
  exact ⟨Nxt F w w', ⟨⟨po', pc', so, sc, wo, wc, yo, yc, ho, hc, hbox, ⟨own_mono hown (Nat.zero_le _), fun g hg => ⟨.inr (hblk g hg), (hown.lt g hg).2⟩⟩, hk h.s (by decide), hk h.t (by decide), hk h.l (by decide), hk h.h (by decide)⟩, hsz gp hg, fun x hx => hx.2⟩, fun y hy => hy.1, hch.mono (fun y hy => by rw [show y = gp from hy]; exact hg)⟩
structure Less (S T : Sta) : Prop where
  srv : T.srv.Sublist S.srv
  wts : T.wts.Sublist S.wts
  rest : Rest S T
theorem Less.refl (S : Sta) : Less S S := ⟨List.Sublist.refl _, List.Sublist.refl _, Rest.refl _⟩
theorem Less.trans {S T U : Sta} (h : Less S T) (k : Less T U) : Less S U := ⟨k.srv.trans h.srv, k.wts.trans h.wts, h.rest.trans k.rest⟩
theorem Less.inv {S T : Sta} {op : Int} (h : Less S T) (hi : Inv S op) : Inv T op := ⟨hi.ids.sublist h.srv, fun x hx => hi.low x (h.srv.subset hx), hi.op0, hi.cli.sublist h.wts⟩
theorem Less.ok {S T : Sta} {op : Int} (h : Less S T) (hk : Ok S op) : Ok T op := by
  refine ⟨h.inv hk.inv, ?_, by rw [h.rest.1]; exact hk.pools⟩
  have h1 := hk.pot
  have h2 := h.wts.length_le
  unfold pot at *
  simp only at *
  omega
theorem thinP_less (pool : ByteArray) : ∀ (f : Nat) (S : Sta), Less S (cThinP pool f S)
  | 0, S => Less.refl _
  | f + 1, S => by
    rw [cThinP]
    split
    · exact Less.refl _
    · exact Less.trans (T := cShut S _) ⟨List.filter_sublist, List.Sublist.refl _, ⟨rfl, rfl, rfl, rfl, rfl⟩⟩ (thinP_less pool f _)
theorem thinA_less : ∀ (f : Nat) (S : Sta), Less S (cThinA f S)
  | 0, S => Less.refl _
  | f + 1, S => by
    rw [cThinA]
    split
    · exact Less.refl _
    · exact Less.trans (T := cShut S _) ⟨List.filter_sublist, List.Sublist.refl _, ⟨rfl, rfl, rfl, rfl, rfl⟩⟩ (thinA_less f _)
theorem thinL_less (pool : ByteArray) : ∀ (f : Nat) (S : Sta), Less S (cThinL pool f S)
  | 0, S => Less.refl _
  | f + 1, S => by
    rw [cThinL]
    exact Less.trans (T := cQuit S _) ⟨List.Sublist.refl _, List.filter_sublist, ⟨rfl, rfl, rfl, rfl, rfl⟩⟩ (thinL_less pool f _)
theorem shutF_less (S : Sta) (pool : ByteArray) (far : Int) : Less S (cShutF S pool far) := ⟨List.filter_sublist, List.Sublist.refl _, ⟨rfl, rfl, rfl, rfl, rfl⟩⟩
def tabS (S : Sta) (T : Int × List Pl) : Sta := { S with bud := T.1, pools := T.2 }
def cBegin (k : Int) (nm : ByteArray) (n : Int) (S : Sta) : Sta :=
  let S1 := tabS S (takeT k nm n S.bud S.pools)
  if k = 1 then cThinP nm ((cntG (isPoolV nm) S1.srv : Int) - n).toNat S1
  else if k = 2 then cThinP nm ((cntG (isPoolV nm) (cThinL nm ((cntG (isPoolW nm) S1.wts : Int) - 0).toNat S1).srv : Int) - 0).toNat (cThinL nm ((cntG (isPoolW nm) S1.wts : Int) - 0).toNat S1)
  else if k = 3 then cThinA ((S1.srv.length : Int) - n).toNat S1
  else if k = 5 then cShutF S1 nm n
  else if k = 6 then cThinL nm ((cntG (isPoolW nm) S1.wts : Int) - n).toNat S1
  else S1
set_option maxRecDepth 20000 in
set_option maxHeartbeats 8000000 in
theorem begin1 (gp : Nat) (nm : ByteArray) (n : Int) (S : Sta) (X : Aux) (F : Nat → Prop) (w : World) (h : DeskAt w gp S X F) (hok : Ok S X.op) (hq1 : S.pools.length ≤ 1000) (hN : 0 ≤ n ∧ n ≤ 1000000) :
    Calls Tryz.prog 86 #[.pointer (some ⟨gp, 0, none⟩), stA 1 nm n] w fun e w' => (∃ x, e = .returned x) ∧ Moved w w' gp (cBegin 1 nm n S) X F := by
  obtain ⟨po, pc, so, sc, wo, wc, yo, yc, ho, hc, hx⟩ := h.ex
  have hgplt : gp < w.heap.size := h.lt gp h.gp
  have hL := hok.inv.len
  have hP := hok.pot
  have hO := hok.inv.op0
  unfold pot at hP
  simp only at hP
  have HK : Hid ((∀ x ∈ S.srv, x.id ≠ 0) ∧ S.srv.length ≤ 549755813888 ∧ S.wts.length ≤ 549755813888) := ⟨hok.inv.nz, by omega, by omega⟩
  obtain ⟨W0, hW0⟩ : ∃ W0, W0 = w.alloc (bSt 1 nm n) := ⟨_, rfl⟩
  have hbW : Below w.heap.size w W0 := by rw [hW0]; exact nx_alloc _ _
  have K0 : Hid (W0 = w.alloc (bSt 1 nm n) ∧ W0.heap[w.heap.size]? = some (bSt 1 nm n) ∧ Below w.heap.size w W0 ∧ w.heap.size < W0.heap.size) := ⟨hW0, by rw [hW0]; exact heap_alloc_at _ _ rfl, hbW, by rw [hW0]; simp⟩
  have HD0 : Hid (DeskAt W0 gp S X F) := h.keep (G := fun _ => False) (Chg.of_below hbW) (fun _ _ h => h)
  have hx0 : DeskX W0 gp S X F po pc so sc wo wc yo yc ho hc := by
    have hh : ∀ g, F g → W0.heap[g]? = w.heap[g]? := fun g hg => hbW.block g (h.lt g hg)
    exact ⟨(hh gp h.gp).trans hx.box, hx.p.keep hh (fun _ h => h), hx.s.keep hh (fun _ h => h), hx.t.keep hh (fun _ h => h), hx.l.keep hh (fun _ h => h), hx.h.keep hh (fun _ h => h)⟩
  have HX := hideIt hx0
  have hgp0 : gp < W0.heap.size := Nat.lt_of_lt_of_le hgplt hbW.size
  have HNF : Hid (¬ F w.heap.size ∧ gp ≠ w.heap.size) := ⟨fun hf => by have := h.lt _ hf; omega, by omega⟩
  have HTK : Hid (∀ u, Below W0.heap.size W0 u → Calls Tryz.prog 102 #[.agg #[.int .i64 S.bud, .slice po S.pools.length pc], stA 1 nm n] u fun e w' => TakeG (takeT 1 nm n S.bud S.pools) u w' e) := by
    intro u hu
    exact take1 S.bud po _ pc nm n S.pools u (own_below HX.out.p.own hu) rfl hq1
  obtain ⟨⟨tb, tp⟩, hT⟩ : ∃ T, takeT 1 nm n S.bud S.pools = T := ⟨_, rfl⟩
  rw [hT] at HTK
  have HT := hideIt hT
  obtain ⟨g0, g1, g2, g3, g4, gz⟩ := blk5d HX.out.box
  obtain ⟨b0, b1, b2, bz⟩ := blk3d K0.out.2.1
  clear h hx hx0 hok hL hP hO hW0 hbW hT hgplt
  go_enter Tryz.func86, Tryz.ntmps86
  go_upto_region 1 with fail
  rw [← K0.out.1]
  go_cut [10] (fun v wx => ∃ wy, Hid (Moved W0 wy gp (tabS S (tb, tp)) X F ∧ wy.heap[w.heap.size]? = some (bSt 1 nm n)) ∧ wy = wx)
  case first =>
    go_region_with (go_at_call 102; refine (HTK.out _ ((Below.refl _ _).drew)).mono ?_; rintro e w2 ⟨vo, vc, rfl, ho2, hb2⟩; have HB2 : Hid (Below W0.heap.size W0 w2 ∧ w2.ownsRow W0.heap.size 75 4 (.slice vo tp.length vc) tp.length (flatP tp)) := ⟨nx_trans (Below.refl _ _).drew hb2, ho2⟩; obtain ⟨q0, q1, q2, q3, q4, qz⟩ := blk5d ((HB2.out.1.block gp hgp0).trans HX.out.box); clear ho2 hb2)
    all_goals
      go_wp2_with fail
      go_meet
      refine ⟨_, ⟨moved_tab (B := W0.heap.size) HX.out HD0.out.gp HD0.out.lt tb tp vo vc ?_ ?_ (fun g hg => (HB2.out.2.lt g hg).1) ?_, ?_⟩, rfl⟩
      · exact set_heap _ _ _ _ _ _ (set_heap _ _ _ _ _ _ ((HB2.out.1.block gp hgp0).trans HX.out.box))
      · exact ownsRow_setCell_below (ownsRow_setCell_below HB2.out.2 hgp0 _) hgp0 _
      · exact ((Chg.of_below HB2.out.1).trans (Chg.set (F := fun y => y = gp) w2 gp 0 _ rfl) (fun y hy => .inl hy)).trans (Chg.set (F := fun y => y = gp) _ gp 1 _ rfl) (fun y hy => .inl hy)
      · exact (Below.heap_setCell _ _ _ _ (fun e => HNF.out.2 e.symm)).trans ((Below.heap_setCell _ _ _ _ (fun e => HNF.out.2 e.symm)).trans ((HB2.out.1.block _ K0.out.2.2.2).trans K0.out.2.1))
  case rest =>
    obtain ⟨wy, HMY, rfl⟩ := hcut
    obtain ⟨F1, hd, hnx⟩ := HMY.out.1.step
    clear g0 g1 g2 g3 g4 gz b0 b1 b2 bz
    obtain ⟨b0, b1, b2, bz⟩ := blk3d HMY.out.2
    have HNX := hideIt hnx
    have HTP := hideIt (dThinPool gp nm n (tabS S (tb, tp)) X F1 wy hd HK.out.1 HK.out.2.1 hN)
    clear hd hnx
    go_wp2_with fail
    refine HTP.out.mono ?_
    rintro e w3 ⟨⟨x, rfl⟩, hm⟩
    have KF : Hid (Moved w w3 gp (cBegin 1 nm n S) X F) := by
      have hE : cBegin 1 nm n S = cThinP nm ((cntG (isPoolV nm) (tabS S (tb, tp)).srv : Int) - n).toNat (tabS S (tb, tp)) := by unfold cBegin; rw [HT.out]; rfl
      rw [hE]
      exact Moved.after K0.out.2.2.1 (HNX.out _ _ _ hm)
    clear hm b0 b1 b2 bz
    go_wp2_with fail
    first
    | (refine bodyPost_end (v := .tuple #[]) (by simp [results, Tryz.results86, go_sem]) rfl ?_; exact ⟨⟨_, rfl⟩, KF.out⟩)
    | (refine bodyPost_ret (v := .tuple #[]) (by simp [results, Tryz.results86, go_sem]) rfl ?_; exact ⟨⟨_, rfl⟩, KF.out⟩)
set_option maxRecDepth 20000 in
set_option maxHeartbeats 8000000 in
theorem begin2 (gp : Nat) (nm : ByteArray) (n : Int) (S : Sta) (X : Aux) (F : Nat → Prop) (w : World) (h : DeskAt w gp S X F) (hok : Ok S X.op) (hq1 : S.pools.length ≤ 1000) (_hN : 0 ≤ n ∧ n ≤ 1000000) :
    Calls Tryz.prog 86 #[.pointer (some ⟨gp, 0, none⟩), stA 2 nm n] w fun e w' => (∃ x, e = .returned x) ∧ Moved w w' gp (cBegin 2 nm n S) X F := by
  obtain ⟨po, pc, so, sc, wo, wc, yo, yc, ho, hc, hx⟩ := h.ex
  have hgplt : gp < w.heap.size := h.lt gp h.gp
  have hL := hok.inv.len
  have hP := hok.pot
  have hO := hok.inv.op0
  unfold pot at hP
  simp only at hP
  have HK : Hid ((∀ x ∈ S.srv, x.id ≠ 0) ∧ S.srv.length ≤ 549755813888 ∧ S.wts.length ≤ 549755813888) := ⟨hok.inv.nz, by omega, by omega⟩
  obtain ⟨W0, hW0⟩ : ∃ W0, W0 = w.alloc (bSt 2 nm n) := ⟨_, rfl⟩
  have hbW : Below w.heap.size w W0 := by rw [hW0]; exact nx_alloc _ _
  have K0 : Hid (W0 = w.alloc (bSt 2 nm n) ∧ W0.heap[w.heap.size]? = some (bSt 2 nm n) ∧ Below w.heap.size w W0 ∧ w.heap.size < W0.heap.size) := ⟨hW0, by rw [hW0]; exact heap_alloc_at _ _ rfl, hbW, by rw [hW0]; simp⟩
  have HD0 : Hid (DeskAt W0 gp S X F) := h.keep (G := fun _ => False) (Chg.of_below hbW) (fun _ _ h => h)
  have hx0 : DeskX W0 gp S X F po pc so sc wo wc yo yc ho hc := by
    have hh : ∀ g, F g → W0.heap[g]? = w.heap[g]? := fun g hg => hbW.block g (h.lt g hg)
    exact ⟨(hh gp h.gp).trans hx.box, hx.p.keep hh (fun _ h => h), hx.s.keep hh (fun _ h => h), hx.t.keep hh (fun _ h => h), hx.l.keep hh (fun _ h => h), hx.h.keep hh (fun _ h => h)⟩
  have HX := hideIt hx0
  have hgp0 : gp < W0.heap.size := Nat.lt_of_lt_of_le hgplt hbW.size
  have HNF : Hid (¬ F w.heap.size ∧ gp ≠ w.heap.size) := ⟨fun hf => by have := h.lt _ hf; omega, by omega⟩
  have HTK : Hid (∀ u, Below W0.heap.size W0 u → Calls Tryz.prog 102 #[.agg #[.int .i64 S.bud, .slice po S.pools.length pc], stA 2 nm n] u fun e w' => TakeG (takeT 2 nm n S.bud S.pools) u w' e) := by
    intro u hu
    exact take2 S.bud po _ pc nm n S.pools u (own_below HX.out.p.own hu) rfl hq1
  obtain ⟨⟨tb, tp⟩, hT⟩ : ∃ T, takeT 2 nm n S.bud S.pools = T := ⟨_, rfl⟩
  rw [hT] at HTK
  have HT := hideIt hT
  obtain ⟨g0, g1, g2, g3, g4, gz⟩ := blk5d HX.out.box
  obtain ⟨b0, b1, b2, bz⟩ := blk3d K0.out.2.1
  clear h hx hx0 hok hL hP hO hW0 hbW hT hgplt
  go_enter Tryz.func86, Tryz.ntmps86
  go_upto_region 1 with fail
  rw [← K0.out.1]
  go_cut [10] (fun v wx => ∃ wy, Hid (Moved W0 wy gp (tabS S (tb, tp)) X F ∧ wy.heap[w.heap.size]? = some (bSt 2 nm n)) ∧ wy = wx)
  case first =>
    go_region_with (go_at_call 102; refine (HTK.out _ ((Below.refl _ _).drew)).mono ?_; rintro e w2 ⟨vo, vc, rfl, ho2, hb2⟩; have HB2 : Hid (Below W0.heap.size W0 w2 ∧ w2.ownsRow W0.heap.size 75 4 (.slice vo tp.length vc) tp.length (flatP tp)) := ⟨nx_trans (Below.refl _ _).drew hb2, ho2⟩; obtain ⟨q0, q1, q2, q3, q4, qz⟩ := blk5d ((HB2.out.1.block gp hgp0).trans HX.out.box); clear ho2 hb2)
    all_goals
      go_wp2_with fail
      go_meet
      refine ⟨_, ⟨moved_tab (B := W0.heap.size) HX.out HD0.out.gp HD0.out.lt tb tp vo vc ?_ ?_ (fun g hg => (HB2.out.2.lt g hg).1) ?_, ?_⟩, rfl⟩
      · exact set_heap _ _ _ _ _ _ (set_heap _ _ _ _ _ _ ((HB2.out.1.block gp hgp0).trans HX.out.box))
      · exact ownsRow_setCell_below (ownsRow_setCell_below HB2.out.2 hgp0 _) hgp0 _
      · exact ((Chg.of_below HB2.out.1).trans (Chg.set (F := fun y => y = gp) w2 gp 0 _ rfl) (fun y hy => .inl hy)).trans (Chg.set (F := fun y => y = gp) _ gp 1 _ rfl) (fun y hy => .inl hy)
      · exact (Below.heap_setCell _ _ _ _ (fun e => HNF.out.2 e.symm)).trans ((Below.heap_setCell _ _ _ _ (fun e => HNF.out.2 e.symm)).trans ((HB2.out.1.block _ K0.out.2.2.2).trans K0.out.2.1))
  case rest =>
    obtain ⟨wy, HMY, rfl⟩ := hcut
    obtain ⟨F1, hd, hnx⟩ := HMY.out.1.step
    clear g0 g1 g2 g3 g4 gz b0 b1 b2 bz
    obtain ⟨b0, b1, b2, bz⟩ := blk3d HMY.out.2
    have HNX := hideIt hnx
    have HTL := hideIt (dThinLine gp nm 0 (tabS S (tb, tp)) X F1 wy hd HK.out.2.2 (by omega))
    clear hd hnx
    go_wp2_with fail
    refine HTL.out.mono ?_
    rintro e w3 ⟨⟨x, rfl⟩, hm⟩
    have hm' := HNX.out _ _ _ hm
    have hs3 : w3.heap[w.heap.size]? = some (bSt 2 nm n) := by
      obtain ⟨_, _, _, hch⟩ := hm'
      exact (hch.block _ K0.out.2.2.2 HNF.out.1).trans K0.out.2.1
    obtain ⟨F3, hd3, hnx3⟩ := hm'.step
    have HLS := thinL_less nm ((cntG (isPoolW nm) (tabS S (tb, tp)).wts : Int) - 0).toNat (tabS S (tb, tp))
    have HTP := hideIt (dThinPool gp nm 0 _ X F3 w3 hd3 (fun x hx => HK.out.1 x (HLS.srv.subset hx)) (Nat.le_trans HLS.srv.length_le HK.out.2.1) (by omega))
    have HNX3 := hideIt hnx3
    clear hm hm' hd3 hnx3 HLS b0 b1 b2 bz
    obtain ⟨b0, b1, b2, bz⟩ := blk3d hs3
    clear hs3
    go_wp2_with fail
    refine HTP.out.mono ?_
    rintro e w4 ⟨⟨x, rfl⟩, hm⟩
    have KF : Hid (Moved w w4 gp (cBegin 2 nm n S) X F) := by
      have hE : cBegin 2 nm n S = cThinP nm ((cntG (isPoolV nm) (cThinL nm ((cntG (isPoolW nm) (tabS S (tb, tp)).wts : Int) - 0).toNat (tabS S (tb, tp))).srv : Int) - 0).toNat (cThinL nm ((cntG (isPoolW nm) (tabS S (tb, tp)).wts : Int) - 0).toNat (tabS S (tb, tp))) := by unfold cBegin; rw [HT.out]; rfl
      rw [hE]
      exact Moved.after K0.out.2.2.1 (HNX3.out _ _ _ hm)
    clear hm b0 b1 b2 bz
    go_wp2_with fail
    first
    | (refine bodyPost_end (v := .tuple #[]) (by simp [results, Tryz.results86, go_sem]) rfl ?_; exact ⟨⟨_, rfl⟩, KF.out⟩)
    | (refine bodyPost_ret (v := .tuple #[]) (by simp [results, Tryz.results86, go_sem]) rfl ?_; exact ⟨⟨_, rfl⟩, KF.out⟩)
set_option maxRecDepth 20000 in
set_option maxHeartbeats 8000000 in
theorem begin3 (gp : Nat) (nm : ByteArray) (n : Int) (S : Sta) (X : Aux) (F : Nat → Prop) (w : World) (h : DeskAt w gp S X F) (hok : Ok S X.op) (hq1 : S.pools.length ≤ 1000) (hN : 0 ≤ n ∧ n ≤ 1000000) :
    Calls Tryz.prog 86 #[.pointer (some ⟨gp, 0, none⟩), stA 3 nm n] w fun e w' => (∃ x, e = .returned x) ∧ Moved w w' gp (cBegin 3 nm n S) X F := by
  obtain ⟨po, pc, so, sc, wo, wc, yo, yc, ho, hc, hx⟩ := h.ex
  have hgplt : gp < w.heap.size := h.lt gp h.gp
  have hL := hok.inv.len
  have hP := hok.pot
  have hO := hok.inv.op0
  unfold pot at hP
  simp only at hP
  have HK : Hid ((∀ x ∈ S.srv, x.id ≠ 0) ∧ S.srv.length ≤ 549755813888 ∧ S.wts.length ≤ 549755813888) := ⟨hok.inv.nz, by omega, by omega⟩
  obtain ⟨W0, hW0⟩ : ∃ W0, W0 = w.alloc (bSt 3 nm n) := ⟨_, rfl⟩
  have hbW : Below w.heap.size w W0 := by rw [hW0]; exact nx_alloc _ _
  have K0 : Hid (W0 = w.alloc (bSt 3 nm n) ∧ W0.heap[w.heap.size]? = some (bSt 3 nm n) ∧ Below w.heap.size w W0 ∧ w.heap.size < W0.heap.size) := ⟨hW0, by rw [hW0]; exact heap_alloc_at _ _ rfl, hbW, by rw [hW0]; simp⟩
  have HD0 : Hid (DeskAt W0 gp S X F) := h.keep (G := fun _ => False) (Chg.of_below hbW) (fun _ _ h => h)
  have hx0 : DeskX W0 gp S X F po pc so sc wo wc yo yc ho hc := by
    have hh : ∀ g, F g → W0.heap[g]? = w.heap[g]? := fun g hg => hbW.block g (h.lt g hg)
    exact ⟨(hh gp h.gp).trans hx.box, hx.p.keep hh (fun _ h => h), hx.s.keep hh (fun _ h => h), hx.t.keep hh (fun _ h => h), hx.l.keep hh (fun _ h => h), hx.h.keep hh (fun _ h => h)⟩
  have HX := hideIt hx0
  have hgp0 : gp < W0.heap.size := Nat.lt_of_lt_of_le hgplt hbW.size
  have HNF : Hid (¬ F w.heap.size ∧ gp ≠ w.heap.size) := ⟨fun hf => by have := h.lt _ hf; omega, by omega⟩
  have HTK : Hid (∀ u, Below W0.heap.size W0 u → Calls Tryz.prog 102 #[.agg #[.int .i64 S.bud, .slice po S.pools.length pc], stA 3 nm n] u fun e w' => TakeG (takeT 3 nm n S.bud S.pools) u w' e) := by
    intro u hu
    exact take3 S.bud po _ pc nm n S.pools u (own_below HX.out.p.own hu) rfl hq1
  obtain ⟨⟨tb, tp⟩, hT⟩ : ∃ T, takeT 3 nm n S.bud S.pools = T := ⟨_, rfl⟩
  rw [hT] at HTK
  have HT := hideIt hT
  obtain ⟨g0, g1, g2, g3, g4, gz⟩ := blk5d HX.out.box
  obtain ⟨b0, b1, b2, bz⟩ := blk3d K0.out.2.1
  clear h hx hx0 hok hL hP hO hW0 hbW hT hgplt
  go_enter Tryz.func86, Tryz.ntmps86
  go_upto_region 1 with fail
  rw [← K0.out.1]
  go_cut [10] (fun v wx => ∃ wy, Hid (Moved W0 wy gp (tabS S (tb, tp)) X F ∧ wy.heap[w.heap.size]? = some (bSt 3 nm n)) ∧ wy = wx)
  case first =>
    go_region_with (go_at_call 102; refine (HTK.out _ ((Below.refl _ _).drew)).mono ?_; rintro e w2 ⟨vo, vc, rfl, ho2, hb2⟩; have HB2 : Hid (Below W0.heap.size W0 w2 ∧ w2.ownsRow W0.heap.size 75 4 (.slice vo tp.length vc) tp.length (flatP tp)) := ⟨nx_trans (Below.refl _ _).drew hb2, ho2⟩; obtain ⟨q0, q1, q2, q3, q4, qz⟩ := blk5d ((HB2.out.1.block gp hgp0).trans HX.out.box); clear ho2 hb2)
    all_goals
      go_wp2_with fail
      go_meet
      refine ⟨_, ⟨moved_tab (B := W0.heap.size) HX.out HD0.out.gp HD0.out.lt tb tp vo vc ?_ ?_ (fun g hg => (HB2.out.2.lt g hg).1) ?_, ?_⟩, rfl⟩
      · exact set_heap _ _ _ _ _ _ (set_heap _ _ _ _ _ _ ((HB2.out.1.block gp hgp0).trans HX.out.box))
      · exact ownsRow_setCell_below (ownsRow_setCell_below HB2.out.2 hgp0 _) hgp0 _
      · exact ((Chg.of_below HB2.out.1).trans (Chg.set (F := fun y => y = gp) w2 gp 0 _ rfl) (fun y hy => .inl hy)).trans (Chg.set (F := fun y => y = gp) _ gp 1 _ rfl) (fun y hy => .inl hy)
      · exact (Below.heap_setCell _ _ _ _ (fun e => HNF.out.2 e.symm)).trans ((Below.heap_setCell _ _ _ _ (fun e => HNF.out.2 e.symm)).trans ((HB2.out.1.block _ K0.out.2.2.2).trans K0.out.2.1))
  case rest =>
    obtain ⟨wy, HMY, rfl⟩ := hcut
    obtain ⟨F1, hd, hnx⟩ := HMY.out.1.step
    clear g0 g1 g2 g3 g4 gz b0 b1 b2 bz
    obtain ⟨b0, b1, b2, bz⟩ := blk3d HMY.out.2
    have HNX := hideIt hnx
    have HTP := hideIt (dThinAll gp n (tabS S (tb, tp)) X F1 wy hd HK.out.1 HK.out.2.1 hN)
    clear hd hnx
    go_wp2_with fail
    refine HTP.out.mono ?_
    rintro e w3 ⟨⟨x, rfl⟩, hm⟩
    have KF : Hid (Moved w w3 gp (cBegin 3 nm n S) X F) := by
      have hE : cBegin 3 nm n S = cThinA (((tabS S (tb, tp)).srv.length : Int) - n).toNat (tabS S (tb, tp)) := by unfold cBegin; rw [HT.out]; rfl
      rw [hE]
      exact Moved.after K0.out.2.2.1 (HNX.out _ _ _ hm)
    clear hm b0 b1 b2 bz
    go_wp2_with fail
    first
    | (refine bodyPost_end (v := .tuple #[]) (by simp [results, Tryz.results86, go_sem]) rfl ?_; exact ⟨⟨_, rfl⟩, KF.out⟩)
    | (refine bodyPost_ret (v := .tuple #[]) (by simp [results, Tryz.results86, go_sem]) rfl ?_; exact ⟨⟨_, rfl⟩, KF.out⟩)
set_option maxRecDepth 20000 in
set_option maxHeartbeats 8000000 in
theorem begin4 (gp : Nat) (nm : ByteArray) (n : Int) (S : Sta) (X : Aux) (F : Nat → Prop) (w : World) (h : DeskAt w gp S X F) (hok : Ok S X.op) (hq1 : S.pools.length ≤ 1000) (_hN : 0 ≤ n ∧ n ≤ 1000000) :
    Calls Tryz.prog 86 #[.pointer (some ⟨gp, 0, none⟩), stA 4 nm n] w fun e w' => (∃ x, e = .returned x) ∧ Moved w w' gp (cBegin 4 nm n S) X F := by
  obtain ⟨po, pc, so, sc, wo, wc, yo, yc, ho, hc, hx⟩ := h.ex
  have hgplt : gp < w.heap.size := h.lt gp h.gp
  have hL := hok.inv.len
  have hP := hok.pot
  have hO := hok.inv.op0
  unfold pot at hP
  simp only at hP
  have HK : Hid ((∀ x ∈ S.srv, x.id ≠ 0) ∧ S.srv.length ≤ 549755813888 ∧ S.wts.length ≤ 549755813888) := ⟨hok.inv.nz, by omega, by omega⟩
  obtain ⟨W0, hW0⟩ : ∃ W0, W0 = w.alloc (bSt 4 nm n) := ⟨_, rfl⟩
  have hbW : Below w.heap.size w W0 := by rw [hW0]; exact nx_alloc _ _
  have K0 : Hid (W0 = w.alloc (bSt 4 nm n) ∧ W0.heap[w.heap.size]? = some (bSt 4 nm n) ∧ Below w.heap.size w W0 ∧ w.heap.size < W0.heap.size) := ⟨hW0, by rw [hW0]; exact heap_alloc_at _ _ rfl, hbW, by rw [hW0]; simp⟩
  have HD0 : Hid (DeskAt W0 gp S X F) := h.keep (G := fun _ => False) (Chg.of_below hbW) (fun _ _ h => h)
  have hx0 : DeskX W0 gp S X F po pc so sc wo wc yo yc ho hc := by
    have hh : ∀ g, F g → W0.heap[g]? = w.heap[g]? := fun g hg => hbW.block g (h.lt g hg)
    exact ⟨(hh gp h.gp).trans hx.box, hx.p.keep hh (fun _ h => h), hx.s.keep hh (fun _ h => h), hx.t.keep hh (fun _ h => h), hx.l.keep hh (fun _ h => h), hx.h.keep hh (fun _ h => h)⟩
  have HX := hideIt hx0
  have hgp0 : gp < W0.heap.size := Nat.lt_of_lt_of_le hgplt hbW.size
  have HNF : Hid (¬ F w.heap.size ∧ gp ≠ w.heap.size) := ⟨fun hf => by have := h.lt _ hf; omega, by omega⟩
  have HTK : Hid (∀ u, Below W0.heap.size W0 u → Calls Tryz.prog 102 #[.agg #[.int .i64 S.bud, .slice po S.pools.length pc], stA 4 nm n] u fun e w' => TakeG (takeT 4 nm n S.bud S.pools) u w' e) := by
    intro u hu
    exact take4 S.bud po _ pc nm n S.pools u (own_below HX.out.p.own hu) rfl hq1
  obtain ⟨⟨tb, tp⟩, hT⟩ : ∃ T, takeT 4 nm n S.bud S.pools = T := ⟨_, rfl⟩
  rw [hT] at HTK
  have HT := hideIt hT
  obtain ⟨g0, g1, g2, g3, g4, gz⟩ := blk5d HX.out.box
  obtain ⟨b0, b1, b2, bz⟩ := blk3d K0.out.2.1
  clear h hx hx0 hok hL hP hO hW0 hbW hT hgplt
  go_enter Tryz.func86, Tryz.ntmps86
  go_upto_region 1 with fail
  rw [← K0.out.1]
  go_cut [10] (fun v wx => ∃ wy, Hid (Moved W0 wy gp (tabS S (tb, tp)) X F ∧ wy.heap[w.heap.size]? = some (bSt 4 nm n)) ∧ wy = wx)
  case first =>
    go_region_with (go_at_call 102; refine (HTK.out _ ((Below.refl _ _).drew)).mono ?_; rintro e w2 ⟨vo, vc, rfl, ho2, hb2⟩; have HB2 : Hid (Below W0.heap.size W0 w2 ∧ w2.ownsRow W0.heap.size 75 4 (.slice vo tp.length vc) tp.length (flatP tp)) := ⟨nx_trans (Below.refl _ _).drew hb2, ho2⟩; obtain ⟨q0, q1, q2, q3, q4, qz⟩ := blk5d ((HB2.out.1.block gp hgp0).trans HX.out.box); clear ho2 hb2)
    all_goals
      go_wp2_with fail
      go_meet
      refine ⟨_, ⟨moved_tab (B := W0.heap.size) HX.out HD0.out.gp HD0.out.lt tb tp vo vc ?_ ?_ (fun g hg => (HB2.out.2.lt g hg).1) ?_, ?_⟩, rfl⟩
      · exact set_heap _ _ _ _ _ _ (set_heap _ _ _ _ _ _ ((HB2.out.1.block gp hgp0).trans HX.out.box))
      · exact ownsRow_setCell_below (ownsRow_setCell_below HB2.out.2 hgp0 _) hgp0 _
      · exact ((Chg.of_below HB2.out.1).trans (Chg.set (F := fun y => y = gp) w2 gp 0 _ rfl) (fun y hy => .inl hy)).trans (Chg.set (F := fun y => y = gp) _ gp 1 _ rfl) (fun y hy => .inl hy)
      · exact (Below.heap_setCell _ _ _ _ (fun e => HNF.out.2 e.symm)).trans ((Below.heap_setCell _ _ _ _ (fun e => HNF.out.2 e.symm)).trans ((HB2.out.1.block _ K0.out.2.2.2).trans K0.out.2.1))
  case rest =>
    obtain ⟨wy, HMY, rfl⟩ := hcut
    obtain ⟨F1, hd, hnx⟩ := HMY.out.1.step
    clear g0 g1 g2 g3 g4 gz b0 b1 b2 bz
    obtain ⟨b0, b1, b2, bz⟩ := blk3d HMY.out.2
    have HNX := hideIt hnx
    have KF : Hid (Moved w wy gp (cBegin 4 nm n S) X F) := by
      have hE : cBegin 4 nm n S = tabS S (tb, tp) := by unfold cBegin; rw [HT.out]; rfl
      rw [hE]
      exact Moved.after K0.out.2.2.1 HMY.out.1
    clear hd hnx
    go_wp2_with fail
    first
    | (refine bodyPost_end (v := .tuple #[]) (by simp [results, Tryz.results86, go_sem]) rfl ?_; exact ⟨⟨_, rfl⟩, KF.out⟩)
    | (refine bodyPost_ret (v := .tuple #[]) (by simp [results, Tryz.results86, go_sem]) rfl ?_; exact ⟨⟨_, rfl⟩, KF.out⟩)
set_option maxRecDepth 20000 in
set_option maxHeartbeats 8000000 in
theorem begin5 (gp : Nat) (nm : ByteArray) (n : Int) (S : Sta) (X : Aux) (F : Nat → Prop) (w : World) (h : DeskAt w gp S X F) (hok : Ok S X.op) (hq1 : S.pools.length ≤ 1000) (_hN : 0 ≤ n ∧ n ≤ 1000000) :
    Calls Tryz.prog 86 #[.pointer (some ⟨gp, 0, none⟩), stA 5 nm n] w fun e w' => (∃ x, e = .returned x) ∧ Moved w w' gp (cBegin 5 nm n S) X F := by
  obtain ⟨po, pc, so, sc, wo, wc, yo, yc, ho, hc, hx⟩ := h.ex
  have hgplt : gp < w.heap.size := h.lt gp h.gp
  have hL := hok.inv.len
  have hP := hok.pot
  have hO := hok.inv.op0
  unfold pot at hP
  simp only at hP
  have HK : Hid ((∀ x ∈ S.srv, x.id ≠ 0) ∧ S.srv.length ≤ 549755813888 ∧ S.wts.length ≤ 549755813888) := ⟨hok.inv.nz, by omega, by omega⟩
  obtain ⟨W0, hW0⟩ : ∃ W0, W0 = w.alloc (bSt 5 nm n) := ⟨_, rfl⟩
  have hbW : Below w.heap.size w W0 := by rw [hW0]; exact nx_alloc _ _
  have K0 : Hid (W0 = w.alloc (bSt 5 nm n) ∧ W0.heap[w.heap.size]? = some (bSt 5 nm n) ∧ Below w.heap.size w W0 ∧ w.heap.size < W0.heap.size) := ⟨hW0, by rw [hW0]; exact heap_alloc_at _ _ rfl, hbW, by rw [hW0]; simp⟩
  have HD0 : Hid (DeskAt W0 gp S X F) := h.keep (G := fun _ => False) (Chg.of_below hbW) (fun _ _ h => h)
  have hx0 : DeskX W0 gp S X F po pc so sc wo wc yo yc ho hc := by
    have hh : ∀ g, F g → W0.heap[g]? = w.heap[g]? := fun g hg => hbW.block g (h.lt g hg)
    exact ⟨(hh gp h.gp).trans hx.box, hx.p.keep hh (fun _ h => h), hx.s.keep hh (fun _ h => h), hx.t.keep hh (fun _ h => h), hx.l.keep hh (fun _ h => h), hx.h.keep hh (fun _ h => h)⟩
  have HX := hideIt hx0
  have hgp0 : gp < W0.heap.size := Nat.lt_of_lt_of_le hgplt hbW.size
  have HNF : Hid (¬ F w.heap.size ∧ gp ≠ w.heap.size) := ⟨fun hf => by have := h.lt _ hf; omega, by omega⟩
  have HTK : Hid (∀ u, Below W0.heap.size W0 u → Calls Tryz.prog 102 #[.agg #[.int .i64 S.bud, .slice po S.pools.length pc], stA 5 nm n] u fun e w' => TakeG (takeT 5 nm n S.bud S.pools) u w' e) := by
    intro u hu
    exact take5 S.bud po _ pc nm n S.pools u (own_below HX.out.p.own hu) rfl hq1
  obtain ⟨⟨tb, tp⟩, hT⟩ : ∃ T, takeT 5 nm n S.bud S.pools = T := ⟨_, rfl⟩
  rw [hT] at HTK
  have HT := hideIt hT
  obtain ⟨g0, g1, g2, g3, g4, gz⟩ := blk5d HX.out.box
  obtain ⟨b0, b1, b2, bz⟩ := blk3d K0.out.2.1
  clear h hx hx0 hok hL hP hO hW0 hbW hT hgplt
  go_enter Tryz.func86, Tryz.ntmps86
  go_upto_region 1 with fail
  rw [← K0.out.1]
  go_cut [10] (fun v wx => ∃ wy, Hid (Moved W0 wy gp (tabS S (tb, tp)) X F ∧ wy.heap[w.heap.size]? = some (bSt 5 nm n)) ∧ wy = wx)
  case first =>
    go_region_with (go_at_call 102; refine (HTK.out _ ((Below.refl _ _).drew)).mono ?_; rintro e w2 ⟨vo, vc, rfl, ho2, hb2⟩; have HB2 : Hid (Below W0.heap.size W0 w2 ∧ w2.ownsRow W0.heap.size 75 4 (.slice vo tp.length vc) tp.length (flatP tp)) := ⟨nx_trans (Below.refl _ _).drew hb2, ho2⟩; obtain ⟨q0, q1, q2, q3, q4, qz⟩ := blk5d ((HB2.out.1.block gp hgp0).trans HX.out.box); clear ho2 hb2)
    all_goals
      go_wp2_with fail
      go_meet
      refine ⟨_, ⟨moved_tab (B := W0.heap.size) HX.out HD0.out.gp HD0.out.lt tb tp vo vc ?_ ?_ (fun g hg => (HB2.out.2.lt g hg).1) ?_, ?_⟩, rfl⟩
      · exact set_heap _ _ _ _ _ _ (set_heap _ _ _ _ _ _ ((HB2.out.1.block gp hgp0).trans HX.out.box))
      · exact ownsRow_setCell_below (ownsRow_setCell_below HB2.out.2 hgp0 _) hgp0 _
      · exact ((Chg.of_below HB2.out.1).trans (Chg.set (F := fun y => y = gp) w2 gp 0 _ rfl) (fun y hy => .inl hy)).trans (Chg.set (F := fun y => y = gp) _ gp 1 _ rfl) (fun y hy => .inl hy)
      · exact (Below.heap_setCell _ _ _ _ (fun e => HNF.out.2 e.symm)).trans ((Below.heap_setCell _ _ _ _ (fun e => HNF.out.2 e.symm)).trans ((HB2.out.1.block _ K0.out.2.2.2).trans K0.out.2.1))
  case rest =>
    obtain ⟨wy, HMY, rfl⟩ := hcut
    obtain ⟨F1, hd, hnx⟩ := HMY.out.1.step
    clear g0 g1 g2 g3 g4 gz b0 b1 b2 bz
    obtain ⟨b0, b1, b2, bz⟩ := blk3d HMY.out.2
    have HNX := hideIt hnx
    have HTP := hideIt (dShutF gp nm n (tabS S (tb, tp)) X F1 wy hd (Nat.le_trans HK.out.2.1 (by omega)))
    clear hd hnx
    go_wp2_with fail
    refine HTP.out.mono ?_
    rintro e w3 ⟨⟨x, rfl⟩, hm⟩
    have KF : Hid (Moved w w3 gp (cBegin 5 nm n S) X F) := by
      have hE : cBegin 5 nm n S = cShutF (tabS S (tb, tp)) nm n := by unfold cBegin; rw [HT.out]; rfl
      rw [hE]
      exact Moved.after K0.out.2.2.1 (HNX.out _ _ _ hm)
    clear hm b0 b1 b2 bz
    go_wp2_with fail
    first
    | (refine bodyPost_end (v := .tuple #[]) (by simp [results, Tryz.results86, go_sem]) rfl ?_; exact ⟨⟨_, rfl⟩, KF.out⟩)
    | (refine bodyPost_ret (v := .tuple #[]) (by simp [results, Tryz.results86, go_sem]) rfl ?_; exact ⟨⟨_, rfl⟩, KF.out⟩)
set_option maxRecDepth 20000 in
set_option maxHeartbeats 8000000 in
theorem begin6 (gp : Nat) (nm : ByteArray) (n : Int) (S : Sta) (X : Aux) (F : Nat → Prop) (w : World) (h : DeskAt w gp S X F) (hok : Ok S X.op) (hq1 : S.pools.length ≤ 1000) (hN : 0 ≤ n ∧ n ≤ 1000000) :
    Calls Tryz.prog 86 #[.pointer (some ⟨gp, 0, none⟩), stA 6 nm n] w fun e w' => (∃ x, e = .returned x) ∧ Moved w w' gp (cBegin 6 nm n S) X F := by
  obtain ⟨po, pc, so, sc, wo, wc, yo, yc, ho, hc, hx⟩ := h.ex
  have hgplt : gp < w.heap.size := h.lt gp h.gp
  have hL := hok.inv.len
  have hP := hok.pot
  have hO := hok.inv.op0
  unfold pot at hP
  simp only at hP
  have HK : Hid ((∀ x ∈ S.srv, x.id ≠ 0) ∧ S.srv.length ≤ 549755813888 ∧ S.wts.length ≤ 549755813888) := ⟨hok.inv.nz, by omega, by omega⟩
  obtain ⟨W0, hW0⟩ : ∃ W0, W0 = w.alloc (bSt 6 nm n) := ⟨_, rfl⟩
  have hbW : Below w.heap.size w W0 := by rw [hW0]; exact nx_alloc _ _
  have K0 : Hid (W0 = w.alloc (bSt 6 nm n) ∧ W0.heap[w.heap.size]? = some (bSt 6 nm n) ∧ Below w.heap.size w W0 ∧ w.heap.size < W0.heap.size) := ⟨hW0, by rw [hW0]; exact heap_alloc_at _ _ rfl, hbW, by rw [hW0]; simp⟩
  have HD0 : Hid (DeskAt W0 gp S X F) := h.keep (G := fun _ => False) (Chg.of_below hbW) (fun _ _ h => h)
  have hx0 : DeskX W0 gp S X F po pc so sc wo wc yo yc ho hc := by
    have hh : ∀ g, F g → W0.heap[g]? = w.heap[g]? := fun g hg => hbW.block g (h.lt g hg)
    exact ⟨(hh gp h.gp).trans hx.box, hx.p.keep hh (fun _ h => h), hx.s.keep hh (fun _ h => h), hx.t.keep hh (fun _ h => h), hx.l.keep hh (fun _ h => h), hx.h.keep hh (fun _ h => h)⟩
  have HX := hideIt hx0
  have hgp0 : gp < W0.heap.size := Nat.lt_of_lt_of_le hgplt hbW.size
  have HNF : Hid (¬ F w.heap.size ∧ gp ≠ w.heap.size) := ⟨fun hf => by have := h.lt _ hf; omega, by omega⟩
  have HTK : Hid (∀ u, Below W0.heap.size W0 u → Calls Tryz.prog 102 #[.agg #[.int .i64 S.bud, .slice po S.pools.length pc], stA 6 nm n] u fun e w' => TakeG (takeT 6 nm n S.bud S.pools) u w' e) := by
    intro u hu
    exact take6 S.bud po _ pc nm n S.pools u (own_below HX.out.p.own hu) rfl hq1
  obtain ⟨⟨tb, tp⟩, hT⟩ : ∃ T, takeT 6 nm n S.bud S.pools = T := ⟨_, rfl⟩
  rw [hT] at HTK
  have HT := hideIt hT
  obtain ⟨g0, g1, g2, g3, g4, gz⟩ := blk5d HX.out.box
  obtain ⟨b0, b1, b2, bz⟩ := blk3d K0.out.2.1
  clear h hx hx0 hok hL hP hO hW0 hbW hT hgplt
  go_enter Tryz.func86, Tryz.ntmps86
  go_upto_region 1 with fail
  rw [← K0.out.1]
  go_cut [10] (fun v wx => ∃ wy, Hid (Moved W0 wy gp (tabS S (tb, tp)) X F ∧ wy.heap[w.heap.size]? = some (bSt 6 nm n)) ∧ wy = wx)
  case first =>
    go_region_with (go_at_call 102; refine (HTK.out _ ((Below.refl _ _).drew)).mono ?_; rintro e w2 ⟨vo, vc, rfl, ho2, hb2⟩; have HB2 : Hid (Below W0.heap.size W0 w2 ∧ w2.ownsRow W0.heap.size 75 4 (.slice vo tp.length vc) tp.length (flatP tp)) := ⟨nx_trans (Below.refl _ _).drew hb2, ho2⟩; obtain ⟨q0, q1, q2, q3, q4, qz⟩ := blk5d ((HB2.out.1.block gp hgp0).trans HX.out.box); clear ho2 hb2)
    all_goals
      go_wp2_with fail
      go_meet
      refine ⟨_, ⟨moved_tab (B := W0.heap.size) HX.out HD0.out.gp HD0.out.lt tb tp vo vc ?_ ?_ (fun g hg => (HB2.out.2.lt g hg).1) ?_, ?_⟩, rfl⟩
      · exact set_heap _ _ _ _ _ _ (set_heap _ _ _ _ _ _ ((HB2.out.1.block gp hgp0).trans HX.out.box))
      · exact ownsRow_setCell_below (ownsRow_setCell_below HB2.out.2 hgp0 _) hgp0 _
      · exact ((Chg.of_below HB2.out.1).trans (Chg.set (F := fun y => y = gp) w2 gp 0 _ rfl) (fun y hy => .inl hy)).trans (Chg.set (F := fun y => y = gp) _ gp 1 _ rfl) (fun y hy => .inl hy)
      · exact (Below.heap_setCell _ _ _ _ (fun e => HNF.out.2 e.symm)).trans ((Below.heap_setCell _ _ _ _ (fun e => HNF.out.2 e.symm)).trans ((HB2.out.1.block _ K0.out.2.2.2).trans K0.out.2.1))
  case rest =>
    obtain ⟨wy, HMY, rfl⟩ := hcut
    obtain ⟨F1, hd, hnx⟩ := HMY.out.1.step
    clear g0 g1 g2 g3 g4 gz b0 b1 b2 bz
    obtain ⟨b0, b1, b2, bz⟩ := blk3d HMY.out.2
    have HNX := hideIt hnx
    have HTP := hideIt (dThinLine gp nm n (tabS S (tb, tp)) X F1 wy hd HK.out.2.2 hN)
    clear hd hnx
    go_wp2_with fail
    refine HTP.out.mono ?_
    rintro e w3 ⟨⟨x, rfl⟩, hm⟩
    have KF : Hid (Moved w w3 gp (cBegin 6 nm n S) X F) := by
      have hE : cBegin 6 nm n S = cThinL nm ((cntG (isPoolW nm) (tabS S (tb, tp)).wts : Int) - n).toNat (tabS S (tb, tp)) := by unfold cBegin; rw [HT.out]; rfl
      rw [hE]
      exact Moved.after K0.out.2.2.1 (HNX.out _ _ _ hm)
    clear hm b0 b1 b2 bz
    go_wp2_with fail
    first
    | (refine bodyPost_end (v := .tuple #[]) (by simp [results, Tryz.results86, go_sem]) rfl ?_; exact ⟨⟨_, rfl⟩, KF.out⟩)
    | (refine bodyPost_ret (v := .tuple #[]) (by simp [results, Tryz.results86, go_sem]) rfl ?_; exact ⟨⟨_, rfl⟩, KF.out⟩)
set_option maxRecDepth 20000 in
set_option maxHeartbeats 8000000 in
theorem begin7 (gp : Nat) (nm : ByteArray) (n : Int) (S : Sta) (X : Aux) (F : Nat → Prop) (w : World) (h : DeskAt w gp S X F) (hok : Ok S X.op) (hq1 : S.pools.length ≤ 1000) (_hN : 0 ≤ n ∧ n ≤ 1000000) :
    Calls Tryz.prog 86 #[.pointer (some ⟨gp, 0, none⟩), stA 7 nm n] w fun e w' => (∃ x, e = .returned x) ∧ Moved w w' gp (cBegin 7 nm n S) X F := by
  obtain ⟨po, pc, so, sc, wo, wc, yo, yc, ho, hc, hx⟩ := h.ex
  have hgplt : gp < w.heap.size := h.lt gp h.gp
  have hL := hok.inv.len
  have hP := hok.pot
  have hO := hok.inv.op0
  unfold pot at hP
  simp only at hP
  have HK : Hid ((∀ x ∈ S.srv, x.id ≠ 0) ∧ S.srv.length ≤ 549755813888 ∧ S.wts.length ≤ 549755813888) := ⟨hok.inv.nz, by omega, by omega⟩
  obtain ⟨W0, hW0⟩ : ∃ W0, W0 = w.alloc (bSt 7 nm n) := ⟨_, rfl⟩
  have hbW : Below w.heap.size w W0 := by rw [hW0]; exact nx_alloc _ _
  have K0 : Hid (W0 = w.alloc (bSt 7 nm n) ∧ W0.heap[w.heap.size]? = some (bSt 7 nm n) ∧ Below w.heap.size w W0 ∧ w.heap.size < W0.heap.size) := ⟨hW0, by rw [hW0]; exact heap_alloc_at _ _ rfl, hbW, by rw [hW0]; simp⟩
  have HD0 : Hid (DeskAt W0 gp S X F) := h.keep (G := fun _ => False) (Chg.of_below hbW) (fun _ _ h => h)
  have hx0 : DeskX W0 gp S X F po pc so sc wo wc yo yc ho hc := by
    have hh : ∀ g, F g → W0.heap[g]? = w.heap[g]? := fun g hg => hbW.block g (h.lt g hg)
    exact ⟨(hh gp h.gp).trans hx.box, hx.p.keep hh (fun _ h => h), hx.s.keep hh (fun _ h => h), hx.t.keep hh (fun _ h => h), hx.l.keep hh (fun _ h => h), hx.h.keep hh (fun _ h => h)⟩
  have HX := hideIt hx0
  have hgp0 : gp < W0.heap.size := Nat.lt_of_lt_of_le hgplt hbW.size
  have HNF : Hid (¬ F w.heap.size ∧ gp ≠ w.heap.size) := ⟨fun hf => by have := h.lt _ hf; omega, by omega⟩
  have HTK : Hid (∀ u, Below W0.heap.size W0 u → Calls Tryz.prog 102 #[.agg #[.int .i64 S.bud, .slice po S.pools.length pc], stA 7 nm n] u fun e w' => TakeG (takeT 7 nm n S.bud S.pools) u w' e) := by
    intro u hu
    exact take7 S.bud po _ pc nm n S.pools u (own_below HX.out.p.own hu) rfl hq1
  obtain ⟨⟨tb, tp⟩, hT⟩ : ∃ T, takeT 7 nm n S.bud S.pools = T := ⟨_, rfl⟩
  rw [hT] at HTK
  have HT := hideIt hT
  obtain ⟨g0, g1, g2, g3, g4, gz⟩ := blk5d HX.out.box
  obtain ⟨b0, b1, b2, bz⟩ := blk3d K0.out.2.1
  clear h hx hx0 hok hL hP hO hW0 hbW hT hgplt
  go_enter Tryz.func86, Tryz.ntmps86
  go_upto_region 1 with fail
  rw [← K0.out.1]
  go_cut [10] (fun v wx => ∃ wy, Hid (Moved W0 wy gp (tabS S (tb, tp)) X F ∧ wy.heap[w.heap.size]? = some (bSt 7 nm n)) ∧ wy = wx)
  case first =>
    go_region_with (go_at_call 102; refine (HTK.out _ ((Below.refl _ _).drew)).mono ?_; rintro e w2 ⟨vo, vc, rfl, ho2, hb2⟩; have HB2 : Hid (Below W0.heap.size W0 w2 ∧ w2.ownsRow W0.heap.size 75 4 (.slice vo tp.length vc) tp.length (flatP tp)) := ⟨nx_trans (Below.refl _ _).drew hb2, ho2⟩; obtain ⟨q0, q1, q2, q3, q4, qz⟩ := blk5d ((HB2.out.1.block gp hgp0).trans HX.out.box); clear ho2 hb2)
    all_goals
      go_wp2_with fail
      go_meet
      refine ⟨_, ⟨moved_tab (B := W0.heap.size) HX.out HD0.out.gp HD0.out.lt tb tp vo vc ?_ ?_ (fun g hg => (HB2.out.2.lt g hg).1) ?_, ?_⟩, rfl⟩
      · exact set_heap _ _ _ _ _ _ (set_heap _ _ _ _ _ _ ((HB2.out.1.block gp hgp0).trans HX.out.box))
      · exact ownsRow_setCell_below (ownsRow_setCell_below HB2.out.2 hgp0 _) hgp0 _
      · exact ((Chg.of_below HB2.out.1).trans (Chg.set (F := fun y => y = gp) w2 gp 0 _ rfl) (fun y hy => .inl hy)).trans (Chg.set (F := fun y => y = gp) _ gp 1 _ rfl) (fun y hy => .inl hy)
      · exact (Below.heap_setCell _ _ _ _ (fun e => HNF.out.2 e.symm)).trans ((Below.heap_setCell _ _ _ _ (fun e => HNF.out.2 e.symm)).trans ((HB2.out.1.block _ K0.out.2.2.2).trans K0.out.2.1))
  case rest =>
    obtain ⟨wy, HMY, rfl⟩ := hcut
    obtain ⟨F1, hd, hnx⟩ := HMY.out.1.step
    clear g0 g1 g2 g3 g4 gz b0 b1 b2 bz
    obtain ⟨b0, b1, b2, bz⟩ := blk3d HMY.out.2
    have HNX := hideIt hnx
    have KF : Hid (Moved w wy gp (cBegin 7 nm n S) X F) := by
      have hE : cBegin 7 nm n S = tabS S (tb, tp) := by unfold cBegin; rw [HT.out]; rfl
      rw [hE]
      exact Moved.after K0.out.2.2.1 HMY.out.1
    clear hd hnx
    go_wp2_with fail
    first
    | (refine bodyPost_end (v := .tuple #[]) (by simp [results, Tryz.results86, go_sem]) rfl ?_; exact ⟨⟨_, rfl⟩, KF.out⟩)
    | (refine bodyPost_ret (v := .tuple #[]) (by simp [results, Tryz.results86, go_sem]) rfl ?_; exact ⟨⟨_, rfl⟩, KF.out⟩)
set_option maxRecDepth 20000 in
set_option maxHeartbeats 8000000 in
theorem begin8 (gp : Nat) (nm : ByteArray) (n : Int) (S : Sta) (X : Aux) (F : Nat → Prop) (w : World) (h : DeskAt w gp S X F) (hok : Ok S X.op) (hq1 : S.pools.length ≤ 1000) (_hN : 0 ≤ n ∧ n ≤ 1000000) :
    Calls Tryz.prog 86 #[.pointer (some ⟨gp, 0, none⟩), stA 8 nm n] w fun e w' => (∃ x, e = .returned x) ∧ Moved w w' gp (cBegin 8 nm n S) X F := by
  obtain ⟨po, pc, so, sc, wo, wc, yo, yc, ho, hc, hx⟩ := h.ex
  have hgplt : gp < w.heap.size := h.lt gp h.gp
  have hL := hok.inv.len
  have hP := hok.pot
  have hO := hok.inv.op0
  unfold pot at hP
  simp only at hP
  have HK : Hid ((∀ x ∈ S.srv, x.id ≠ 0) ∧ S.srv.length ≤ 549755813888 ∧ S.wts.length ≤ 549755813888) := ⟨hok.inv.nz, by omega, by omega⟩
  obtain ⟨W0, hW0⟩ : ∃ W0, W0 = w.alloc (bSt 8 nm n) := ⟨_, rfl⟩
  have hbW : Below w.heap.size w W0 := by rw [hW0]; exact nx_alloc _ _
  have K0 : Hid (W0 = w.alloc (bSt 8 nm n) ∧ W0.heap[w.heap.size]? = some (bSt 8 nm n) ∧ Below w.heap.size w W0 ∧ w.heap.size < W0.heap.size) := ⟨hW0, by rw [hW0]; exact heap_alloc_at _ _ rfl, hbW, by rw [hW0]; simp⟩
  have HD0 : Hid (DeskAt W0 gp S X F) := h.keep (G := fun _ => False) (Chg.of_below hbW) (fun _ _ h => h)
  have hx0 : DeskX W0 gp S X F po pc so sc wo wc yo yc ho hc := by
    have hh : ∀ g, F g → W0.heap[g]? = w.heap[g]? := fun g hg => hbW.block g (h.lt g hg)
    exact ⟨(hh gp h.gp).trans hx.box, hx.p.keep hh (fun _ h => h), hx.s.keep hh (fun _ h => h), hx.t.keep hh (fun _ h => h), hx.l.keep hh (fun _ h => h), hx.h.keep hh (fun _ h => h)⟩
  have HX := hideIt hx0
  have hgp0 : gp < W0.heap.size := Nat.lt_of_lt_of_le hgplt hbW.size
  have HNF : Hid (¬ F w.heap.size ∧ gp ≠ w.heap.size) := ⟨fun hf => by have := h.lt _ hf; omega, by omega⟩
  have HTK : Hid (∀ u, Below W0.heap.size W0 u → Calls Tryz.prog 102 #[.agg #[.int .i64 S.bud, .slice po S.pools.length pc], stA 8 nm n] u fun e w' => TakeG (takeT 8 nm n S.bud S.pools) u w' e) := by
    intro u hu
    exact take8 S.bud po _ pc nm n S.pools u (own_below HX.out.p.own hu) rfl hq1
  obtain ⟨⟨tb, tp⟩, hT⟩ : ∃ T, takeT 8 nm n S.bud S.pools = T := ⟨_, rfl⟩
  rw [hT] at HTK
  have HT := hideIt hT
  obtain ⟨g0, g1, g2, g3, g4, gz⟩ := blk5d HX.out.box
  obtain ⟨b0, b1, b2, bz⟩ := blk3d K0.out.2.1
  clear h hx hx0 hok hL hP hO hW0 hbW hT hgplt
  go_enter Tryz.func86, Tryz.ntmps86
  go_upto_region 1 with fail
  rw [← K0.out.1]
  go_cut [10] (fun v wx => ∃ wy, Hid (Moved W0 wy gp (tabS S (tb, tp)) X F ∧ wy.heap[w.heap.size]? = some (bSt 8 nm n)) ∧ wy = wx)
  case first =>
    go_region_with (go_at_call 102; refine (HTK.out _ ((Below.refl _ _).drew)).mono ?_; rintro e w2 ⟨vo, vc, rfl, ho2, hb2⟩; have HB2 : Hid (Below W0.heap.size W0 w2 ∧ w2.ownsRow W0.heap.size 75 4 (.slice vo tp.length vc) tp.length (flatP tp)) := ⟨nx_trans (Below.refl _ _).drew hb2, ho2⟩; obtain ⟨q0, q1, q2, q3, q4, qz⟩ := blk5d ((HB2.out.1.block gp hgp0).trans HX.out.box); clear ho2 hb2)
    all_goals
      go_wp2_with fail
      go_meet
      refine ⟨_, ⟨moved_tab (B := W0.heap.size) HX.out HD0.out.gp HD0.out.lt tb tp vo vc ?_ ?_ (fun g hg => (HB2.out.2.lt g hg).1) ?_, ?_⟩, rfl⟩
      · exact set_heap _ _ _ _ _ _ (set_heap _ _ _ _ _ _ ((HB2.out.1.block gp hgp0).trans HX.out.box))
      · exact ownsRow_setCell_below (ownsRow_setCell_below HB2.out.2 hgp0 _) hgp0 _
      · exact ((Chg.of_below HB2.out.1).trans (Chg.set (F := fun y => y = gp) w2 gp 0 _ rfl) (fun y hy => .inl hy)).trans (Chg.set (F := fun y => y = gp) _ gp 1 _ rfl) (fun y hy => .inl hy)
      · exact (Below.heap_setCell _ _ _ _ (fun e => HNF.out.2 e.symm)).trans ((Below.heap_setCell _ _ _ _ (fun e => HNF.out.2 e.symm)).trans ((HB2.out.1.block _ K0.out.2.2.2).trans K0.out.2.1))
  case rest =>
    obtain ⟨wy, HMY, rfl⟩ := hcut
    obtain ⟨F1, hd, hnx⟩ := HMY.out.1.step
    clear g0 g1 g2 g3 g4 gz b0 b1 b2 bz
    obtain ⟨b0, b1, b2, bz⟩ := blk3d HMY.out.2
    have HNX := hideIt hnx
    have KF : Hid (Moved w wy gp (cBegin 8 nm n S) X F) := by
      have hE : cBegin 8 nm n S = tabS S (tb, tp) := by unfold cBegin; rw [HT.out]; rfl
      rw [hE]
      exact Moved.after K0.out.2.2.1 HMY.out.1
    clear hd hnx
    go_wp2_with fail
    first
    | (refine bodyPost_end (v := .tuple #[]) (by simp [results, Tryz.results86, go_sem]) rfl ?_; exact ⟨⟨_, rfl⟩, KF.out⟩)
    | (refine bodyPost_ret (v := .tuple #[]) (by simp [results, Tryz.results86, go_sem]) rfl ?_; exact ⟨⟨_, rfl⟩, KF.out⟩)
end Lw
end Go.Proofs.YtohbonfngeblkaaGreat
