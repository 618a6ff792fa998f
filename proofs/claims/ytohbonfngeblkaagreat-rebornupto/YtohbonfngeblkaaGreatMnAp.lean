import Derived.Test.YtohbonfngeblkaaGreatMnAa
import Derived.Test.YtohbonfngeblkaaGreatMnAo
namespace Go.Proofs.YtohbonfngeblkaaGreat
open Go.RowKit
namespace Lw
open Co
set_option maxRecDepth 20000 in
set_option maxHeartbeats 8000000 in
theorem gplay5 (gg gp : Nat) (S : Sta) (X : Aux) (Fp : Nat → Prop) (A B : Int × List Pl) (ao : Option Addr) (ac : Nat) (bo : Option Addr) (bc : Nat) (w : World) (a p : Int) (h : GameAt w gg gp S X Fp A B ao ac bo bc) (hok : Ok S X.op) (hq1 : S.pools.length ≤ 1000) (hp2 : S.plan.length ≤ 1000) (hst : ∀ s ∈ S.plan, StpOk s) :
    Calls Tryz.prog 11 #[.pointer (some ⟨gg, 0, none⟩), .agg #[.int .i64 5, .int .i64 a, .int .i64 p]] w fun e w' => GPlay (cTurn S X).S (cTurn S X).X (cTurn S X).n (cTurn S X).e gg gp Fp A B ao ac bo bc w w' e := by
  obtain ⟨W0, hW0⟩ : ∃ W0, W0 = w.alloc (bOpk 5 a p) := ⟨_, rfl⟩
  have hbW : Below w.heap.size w W0 := by rw [hW0]; exact nx_alloc _ _
  have K0 : Hid (W0 = w.alloc (bOpk 5 a p) ∧ W0.heap[w.heap.size]? = some (bOpk 5 a p) ∧ Below w.heap.size w W0) := ⟨hW0, by rw [hW0]; exact heap_alloc_at _ _ rfl, hbW⟩
  have HG := hideIt h
  have HPC := hideIt (pTurn gp S X Fp W0 (h.below hbW).desk hok hq1 hp2 hst)
  obtain ⟨⟨D, Y, nn, er, ln⟩, hcr⟩ : ∃ r, (cTurn S X) = r := ⟨_, rfl⟩
  rw [hcr] at HPC ⊢
  simp only at HPC ⊢
  have hb0 := (h.below hbW).box
  obtain ⟨x0, x1, x2, x3, x4⟩ := gblk5 hb0
  obtain ⟨b0, b1, b2⟩ := gblk3 K0.out.2.1
  clear h hW0 hbW hcr hb0
  go_enter Tryz.func11, Tryz.ntmps11
  go_upto_region 14 with fail
  rw [← K0.out.1]
  go_wp2_with fail
  refine HPC.out.mono ?_
  rintro e w3 ⟨rfl, hm3⟩
  have HM3 := hideIt hm3
  clear hm3 x0 x1 x2 x3 x4 b0 b1 b2
  go_wp2_with fail
  go_ret2
  exact gPlay_of HG.out K0.out.2.2 HM3.out (Below.refl _ _)
set_option maxRecDepth 20000 in
set_option maxHeartbeats 8000000 in
theorem gplay7 (gg gp : Nat) (S : Sta) (X : Aux) (Fp : Nat → Prop) (A B : Int × List Pl) (ao : Option Addr) (ac : Nat) (bo : Option Addr) (bc : Nat) (w : World) (a p : Int) (h : GameAt w gg gp S X Fp A B ao ac bo bc) (hq1 : S.pools.length ≤ 6) (hq2 : X.hps.length ≤ 6) :
    Calls Tryz.prog 11 #[.pointer (some ⟨gg, 0, none⟩), .agg #[.int .i64 7, .int .i64 a, .int .i64 p]] w fun e w' => GPlay (cAbort S X).S (cAbort S X).X (cAbort S X).n (cAbort S X).e gg gp Fp A B ao ac bo bc w w' e := by
  obtain ⟨W0, hW0⟩ : ∃ W0, W0 = w.alloc (bOpk 7 a p) := ⟨_, rfl⟩
  have hbW : Below w.heap.size w W0 := by rw [hW0]; exact nx_alloc _ _
  have K0 : Hid (W0 = w.alloc (bOpk 7 a p) ∧ W0.heap[w.heap.size]? = some (bOpk 7 a p) ∧ Below w.heap.size w W0) := ⟨hW0, by rw [hW0]; exact heap_alloc_at _ _ rfl, hbW⟩
  have HG := hideIt h
  have HPC := hideIt (pAbort gp S X Fp W0 (h.below hbW).desk hq1 hq2)
  obtain ⟨⟨D, Y, nn, er, ln⟩, hcr⟩ : ∃ r, (cAbort S X) = r := ⟨_, rfl⟩
  rw [hcr] at HPC ⊢
  simp only at HPC ⊢
  have hb0 := (h.below hbW).box
  obtain ⟨x0, x1, x2, x3, x4⟩ := gblk5 hb0
  obtain ⟨b0, b1, b2⟩ := gblk3 K0.out.2.1
  clear h hW0 hbW hcr hb0
  go_enter Tryz.func11, Tryz.ntmps11
  go_upto_region 22 with fail
  rw [← K0.out.1]
  go_wp2_with fail
  refine HPC.out.mono ?_
  rintro e w3 ⟨rfl, hm3⟩
  have HM3 := hideIt hm3
  clear hm3 x0 x1 x2 x3 x4 b0 b1 b2
  go_wp2_with fail
  go_ret2
  exact gPlay_of HG.out K0.out.2.2 HM3.out (Below.refl _ _)
set_option maxRecDepth 20000 in
set_option maxHeartbeats 8000000 in
theorem gplay6b (gg gp : Nat) (S : Sta) (X : Aux) (Fp : Nat → Prop) (A B : Int × List Pl) (ao : Option Addr) (ac : Nat) (bo : Option Addr) (bc : Nat) (w : World) (a p : Int) (h : GameAt w gg gp S X Fp A B ao ac bo bc) (hodd : (bits BinOp.and IntKind.i64 a 1 == 1) = true) (hq1 : S.pools.length ≤ 6) (hp2 : S.plan.length ≤ 1000) (hT : Okt B.1 B.2) :
    Calls Tryz.prog 11 #[.pointer (some ⟨gg, 0, none⟩), .agg #[.int .i64 6, .int .i64 a, .int .i64 p]] w fun e w' => GPlay (cReload S X ⟨B, 0, 0⟩).S (cReload S X ⟨B, 0, 0⟩).X (cReload S X ⟨B, 0, 0⟩).n (cReload S X ⟨B, 0, 0⟩).e gg gp Fp A B ao ac bo bc w w' e := by
  obtain ⟨A1, A2⟩ := A
  obtain ⟨B1, B2⟩ := B
  simp only at hT
  obtain ⟨W0, hW0⟩ : ∃ W0, W0 = w.alloc (bOpk 6 a p) := ⟨_, rfl⟩
  have hbW : Below w.heap.size w W0 := by rw [hW0]; exact nx_alloc _ _
  have K0 : Hid (W0 = w.alloc (bOpk 6 a p) ∧ W0.heap[w.heap.size]? = some (bOpk 6 a p) ∧ Below w.heap.size w W0) := ⟨hW0, by rw [hW0]; exact heap_alloc_at _ _ rfl, hbW⟩
  have HG := hideIt h
  have hg0 := h.below hbW
  obtain ⟨V, hV⟩ : ∃ V, V = W0.alloc (bTab A1 (.slice ao A2.length ac)) := ⟨_, rfl⟩
  have hbV : Below W0.heap.size W0 V := by rw [hV]; exact nx_alloc _ _
  have KV : Hid (V = W0.alloc (bTab A1 (.slice ao A2.length ac)) ∧ V.heap[W0.heap.size]? = some (bTab A1 (.slice ao A2.length ac)) ∧ Below W0.heap.size W0 V) := ⟨hV, by rw [hV]; exact heap_alloc_at _ _ rfl, hbV⟩
  obtain ⟨U, hU⟩ : ∃ U, U = (V.setCell ⟨W0.heap.size, 0, none⟩ (.int .i64 B1)).setCell ⟨W0.heap.size, 1, none⟩ (.slice bo B2.length bc) := ⟨_, rfl⟩
  have hbU : Below W0.heap.size W0 U := by rw [hU]; exact (hbV.setCell (Nat.le_refl _) _).setCell (Nat.le_refl _) _
  have KU : Hid (U = (V.setCell ⟨W0.heap.size, 0, none⟩ (.int .i64 B1)).setCell ⟨W0.heap.size, 1, none⟩ (.slice bo B2.length bc) ∧ U.heap[W0.heap.size]? = some (bTab B1 (.slice bo B2.length bc)) ∧ Below W0.heap.size W0 U) := ⟨hU, by rw [hU]; exact set_heap _ _ _ _ _ _ (set_heap _ _ _ _ _ _ KV.out.2.1), hbU⟩
  have HTX : Hid (∀ u, Below U.heap.size U u → Calls Tryz.prog 22 #[.agg #[.int .i64 B1, .slice bo B2.length bc], .int .i64 0] u fun e w' => (∃ s, (ans s = ⟨(B1, B2), 0, 0⟩ ∧ s.size ≤ 1000) ∧ e = .returned (.string s)) ∧ Below u.heap.size u w') := by
    intro u hu
    refine (text_any B1 B2 bo bc _ 0 u (hg0.b.nx (nx_trans hbU hu)) rfl hT (by constructor <;> omega)).mono ?_
    rintro e w' ⟨⟨s, hs, rfl⟩, hb⟩
    exact ⟨⟨s, ans_text (stOf 0) (lastN B2) hT (fun h => last_mem h) s hs, rfl⟩, hb⟩
  have HPC : Hid (∀ u s, Below U.heap.size U u → (ans s = ⟨(B1, B2), 0, 0⟩ ∧ s.size ≤ 1000) → Calls Tryz.prog 24 #[.pointer (some ⟨gp, 0, none⟩), .string s] u fun e w' => e = .returned (.tuple #[.int .i64 (cReload S X ⟨(B1, B2), 0, 0⟩).n, .int .i64 (cReload S X ⟨(B1, B2), 0, 0⟩).e, .int .i64 (cReload S X ⟨(B1, B2), 0, 0⟩).l]) ∧ Moved u w' gp (cReload S X ⟨(B1, B2), 0, 0⟩).S (cReload S X ⟨(B1, B2), 0, 0⟩).X Fp) := by
    intro u s hu hs
    have := pReload gp s S X Fp u (hg0.below (nx_trans hbU hu)).desk (by unfold maxLen; omega) hq1 hp2 (fun _ => by rw [hs.1]; exact hT.len)
    rw [hs.1] at this
    exact this
  obtain ⟨⟨D, Y, nn, er, ln⟩, hcr⟩ : ∃ r, (cReload S X ⟨(B1, B2), 0, 0⟩) = r := ⟨_, rfl⟩
  rw [hcr] at HPC ⊢
  simp only at HPC ⊢
  have hgg0 : gg < W0.heap.size := hg0.lt
  have hggU : gg < U.heap.size := Nat.lt_of_lt_of_le hgg0 hbU.size
  have hxU : U.heap[gg]? = some (bGame gp A1 (.slice ao A2.length ac) B1 (.slice bo B2.length bc)) := (hbU.block gg hgg0).trans hg0.box
  have hwU : W0.heap.size < U.heap.size := (Array.getElem?_eq_some_iff.1 KU.out.2.1).1
  have HNF : Hid (¬ Fp gg ∧ ¬ Fp W0.heap.size ∧ U.heap[gg]? = some (bGame gp A1 (.slice ao A2.length ac) B1 (.slice bo B2.length bc)) ∧ W0.heap[gg]? = some (bGame gp A1 (.slice ao A2.length ac) B1 (.slice bo B2.length bc)) ∧ w.heap.size < W0.heap.size ∧ gg ≠ W0.heap.size) := ⟨h.dg, fun hf => by have := hg0.desk.lt _ hf; omega, hxU, hg0.box, (Array.getElem?_eq_some_iff.1 K0.out.2.1).1, by omega⟩
  have hbV0 : V.heap[w.heap.size]? = some (bOpk 6 a p) := (hbV.block _ HNF.out.2.2.2.2.1).trans K0.out.2.1
  have hgV : V.heap[gg]? = some (bGame gp A1 (.slice ao A2.length ac) B1 (.slice bo B2.length bc)) := (hbV.block _ hgg0).trans hg0.box
  obtain ⟨x0, x1, x2, x3, x4⟩ := gblk5 hg0.box
  obtain ⟨b0, b1, b2⟩ := gblk3 K0.out.2.1
  have HVV : Hid (V.heap[w.heap.size]? = some (bOpk 6 a p) ∧ V.heap[gg]? = some (bGame gp A1 (.slice ao A2.length ac) B1 (.slice bo B2.length bc))) := ⟨hbV0, hgV⟩
  clear h hW0 hbW hcr hg0 hV hbV hU hbU hxU hbV0 hgV
  go_enter Tryz.func11, Tryz.ntmps11
  go_upto_region 16 with fail
  rw [← K0.out.1]
  go_upto_region 17 with fail
  rw [← KV.out.1]
  clear x0 x1 x2 x3 x4 b0 b1 b2
  obtain ⟨x0, x1, x2, x3, x4⟩ := gblk5 HVV.out.2
  obtain ⟨b0, b1, b2⟩ := gblk3 HVV.out.1
  obtain ⟨c0, c1, cz⟩ := blk2 KV.out.2.1
  have hne := HNF.out.2.2.2.2.2
  go_upto_region 19 with fail
  rw [← KU.out.1]
  clear x0 x1 x2 x3 x4 b0 b1 b2 c0 c1 cz hne
  have x0 := (gblk5 HNF.out.2.2.1).1
  obtain ⟨c0, c1⟩ := gblk2 KU.out.2.1
  go_cut [10, 11, 12] (fun v1 v2 v3 wx => v1 = .int .i64 nn ∧ v2 = .int .i64 er ∧ v3 = .int .i64 ln ∧ ∃ wy, Hid (Moved U wy gp D Y Fp) ∧ wy = wx)
  case first =>
    go_region_held3 (fun w' => w'.cell? ⟨gg, 0, none⟩ = some (.pointer (some ⟨gp, 0, none⟩)) ∧ w'.cell? ⟨W0.heap.size, 0, none⟩ = some (.int .i64 B1) ∧ w'.cell? ⟨W0.heap.size, 1, none⟩ = some (.slice bo B2.length bc)) (go_keep)
      (first
      | (go_at_call 22; refine (HTX.out _ ((Below.refl _ _).drew)).mono ?_; rintro e w2 ⟨⟨s, hs, rfl⟩, hb2⟩; have HB2 : Hid (Below U.heap.size U w2) := nx_trans (Below.refl _ _).drew hb2; have HSS := hideIt hs; have q1 := (HB2.out.cell (p := ⟨gg, 0, none⟩) hggU).trans x0; have q2 := (HB2.out.cell (p := ⟨W0.heap.size, 0, none⟩) hwU).trans c0; have q3 := (HB2.out.cell (p := ⟨W0.heap.size, 1, none⟩) hwU).trans c1; clear hb2 hs)
      | (go_at_call 24; refine (HPC.out _ _ HB2.out HSS.out).mono ?_; rintro e w3 ⟨rfl, hm3⟩; have HM3 : Hid (Moved U w3 gp D Y Fp) := Moved.after HB2.out hm3; have HX2 : Hid (w3.heap[gg]? = U.heap[gg]?) := gmoved_block HM3.out hggU HNF.out.1; have HO2 : Hid (w3.heap[W0.heap.size]? = U.heap[W0.heap.size]?) := gmoved_block HM3.out hwU HNF.out.2.1; have r1 := (World.cell?_of_block (a := ⟨gg, 0, none⟩) HX2.out).trans x0; have r2 := (World.cell?_of_block (a := ⟨W0.heap.size, 0, none⟩) HO2.out).trans c0; have r3 := (World.cell?_of_block (a := ⟨W0.heap.size, 1, none⟩) HO2.out).trans c1; clear hm3))
    all_goals
      go_wp2_with fail
      go_meet
      exact ⟨rfl, rfl, rfl, _, HM3.out, rfl⟩
  case rest =>
    obtain ⟨rfl, rfl, rfl, wy, HMV, rfl⟩ := hcut
    clear x0 c0 c1
    go_wp2_with fail
    go_ret2
    exact gPlay_of HG.out (nx_trans K0.out.2.2 KU.out.2.2) HMV.out (Below.refl _ _)
set_option maxRecDepth 20000 in
set_option maxHeartbeats 8000000 in
theorem gplay6a (gg gp : Nat) (S : Sta) (X : Aux) (Fp : Nat → Prop) (A B : Int × List Pl) (ao : Option Addr) (ac : Nat) (bo : Option Addr) (bc : Nat) (w : World) (a p : Int) (h : GameAt w gg gp S X Fp A B ao ac bo bc) (hodd : (bits BinOp.and IntKind.i64 a 1 == 1) = false) (hq1 : S.pools.length ≤ 6) (hp2 : S.plan.length ≤ 1000) (hT : Okt A.1 A.2) :
    Calls Tryz.prog 11 #[.pointer (some ⟨gg, 0, none⟩), .agg #[.int .i64 6, .int .i64 a, .int .i64 p]] w fun e w' => GPlay (cReload S X ⟨A, 0, 0⟩).S (cReload S X ⟨A, 0, 0⟩).X (cReload S X ⟨A, 0, 0⟩).n (cReload S X ⟨A, 0, 0⟩).e gg gp Fp A B ao ac bo bc w w' e := by
  obtain ⟨A1, A2⟩ := A
  obtain ⟨B1, B2⟩ := B
  simp only at hT
  obtain ⟨W0, hW0⟩ : ∃ W0, W0 = w.alloc (bOpk 6 a p) := ⟨_, rfl⟩
  have hbW : Below w.heap.size w W0 := by rw [hW0]; exact nx_alloc _ _
  have K0 : Hid (W0 = w.alloc (bOpk 6 a p) ∧ W0.heap[w.heap.size]? = some (bOpk 6 a p) ∧ Below w.heap.size w W0) := ⟨hW0, by rw [hW0]; exact heap_alloc_at _ _ rfl, hbW⟩
  have HG := hideIt h
  have hg0 := h.below hbW
  obtain ⟨V, hV⟩ : ∃ V, V = W0.alloc (bTab A1 (.slice ao A2.length ac)) := ⟨_, rfl⟩
  have hbV : Below W0.heap.size W0 V := by rw [hV]; exact nx_alloc _ _
  have KV : Hid (V = W0.alloc (bTab A1 (.slice ao A2.length ac)) ∧ V.heap[W0.heap.size]? = some (bTab A1 (.slice ao A2.length ac)) ∧ Below W0.heap.size W0 V) := ⟨hV, by rw [hV]; exact heap_alloc_at _ _ rfl, hbV⟩
  obtain ⟨U, hU⟩ : ∃ U, U = V := ⟨_, rfl⟩
  have hbU : Below W0.heap.size W0 U := by rw [hU]; exact hbV
  have KU : Hid (U = V ∧ U.heap[W0.heap.size]? = some (bTab A1 (.slice ao A2.length ac)) ∧ Below W0.heap.size W0 U) := ⟨hU, by rw [hU]; exact KV.out.2.1, hbU⟩
  have HTX : Hid (∀ u, Below U.heap.size U u → Calls Tryz.prog 22 #[.agg #[.int .i64 A1, .slice ao A2.length ac], .int .i64 0] u fun e w' => (∃ s, (ans s = ⟨(A1, A2), 0, 0⟩ ∧ s.size ≤ 1000) ∧ e = .returned (.string s)) ∧ Below u.heap.size u w') := by
    intro u hu
    refine (text_any A1 A2 ao ac _ 0 u (hg0.a.nx (nx_trans hbU hu)) rfl hT (by constructor <;> omega)).mono ?_
    rintro e w' ⟨⟨s, hs, rfl⟩, hb⟩
    exact ⟨⟨s, ans_text (stOf 0) (lastN A2) hT (fun h => last_mem h) s hs, rfl⟩, hb⟩
  have HPC : Hid (∀ u s, Below U.heap.size U u → (ans s = ⟨(A1, A2), 0, 0⟩ ∧ s.size ≤ 1000) → Calls Tryz.prog 24 #[.pointer (some ⟨gp, 0, none⟩), .string s] u fun e w' => e = .returned (.tuple #[.int .i64 (cReload S X ⟨(A1, A2), 0, 0⟩).n, .int .i64 (cReload S X ⟨(A1, A2), 0, 0⟩).e, .int .i64 (cReload S X ⟨(A1, A2), 0, 0⟩).l]) ∧ Moved u w' gp (cReload S X ⟨(A1, A2), 0, 0⟩).S (cReload S X ⟨(A1, A2), 0, 0⟩).X Fp) := by
    intro u s hu hs
    have := pReload gp s S X Fp u (hg0.below (nx_trans hbU hu)).desk (by unfold maxLen; omega) hq1 hp2 (fun _ => by rw [hs.1]; exact hT.len)
    rw [hs.1] at this
    exact this
  obtain ⟨⟨D, Y, nn, er, ln⟩, hcr⟩ : ∃ r, (cReload S X ⟨(A1, A2), 0, 0⟩) = r := ⟨_, rfl⟩
  rw [hcr] at HPC ⊢
  simp only at HPC ⊢
  have hgg0 : gg < W0.heap.size := hg0.lt
  have hggU : gg < U.heap.size := Nat.lt_of_lt_of_le hgg0 hbU.size
  have hxU : U.heap[gg]? = some (bGame gp A1 (.slice ao A2.length ac) B1 (.slice bo B2.length bc)) := (hbU.block gg hgg0).trans hg0.box
  have hwU : W0.heap.size < U.heap.size := (Array.getElem?_eq_some_iff.1 KU.out.2.1).1
  have HNF : Hid (¬ Fp gg ∧ ¬ Fp W0.heap.size ∧ U.heap[gg]? = some (bGame gp A1 (.slice ao A2.length ac) B1 (.slice bo B2.length bc)) ∧ W0.heap[gg]? = some (bGame gp A1 (.slice ao A2.length ac) B1 (.slice bo B2.length bc)) ∧ w.heap.size < W0.heap.size ∧ gg ≠ W0.heap.size) := ⟨h.dg, fun hf => by have := hg0.desk.lt _ hf; omega, hxU, hg0.box, (Array.getElem?_eq_some_iff.1 K0.out.2.1).1, by omega⟩
  have hbV0 : V.heap[w.heap.size]? = some (bOpk 6 a p) := (hbV.block _ HNF.out.2.2.2.2.1).trans K0.out.2.1
  have hgV : V.heap[gg]? = some (bGame gp A1 (.slice ao A2.length ac) B1 (.slice bo B2.length bc)) := (hbV.block _ hgg0).trans hg0.box
  obtain ⟨x0, x1, x2, x3, x4⟩ := gblk5 hg0.box
  obtain ⟨b0, b1, b2⟩ := gblk3 K0.out.2.1
  have HVV : Hid (V.heap[w.heap.size]? = some (bOpk 6 a p) ∧ V.heap[gg]? = some (bGame gp A1 (.slice ao A2.length ac) B1 (.slice bo B2.length bc))) := ⟨hbV0, hgV⟩
  clear h hW0 hbW hcr hg0 hV hbV hU hbU hxU hbV0 hgV
  go_enter Tryz.func11, Tryz.ntmps11
  go_upto_region 16 with fail
  rw [← K0.out.1]
  go_upto_region 17 with fail
  rw [← KV.out.1]
  clear x0 x1 x2 x3 x4 b0 b1 b2
  obtain ⟨x0, x1, x2, x3, x4⟩ := gblk5 HVV.out.2
  obtain ⟨b0, b1, b2⟩ := gblk3 HVV.out.1
  obtain ⟨c0, c1, cz⟩ := blk2 KV.out.2.1
  have hne := HNF.out.2.2.2.2.2
  go_upto_region 19 with fail
  rw [← KU.out.1]
  clear x0 x1 x2 x3 x4 b0 b1 b2 c0 c1 cz hne
  have x0 := (gblk5 HNF.out.2.2.1).1
  obtain ⟨c0, c1⟩ := gblk2 KU.out.2.1
  go_cut [10, 11, 12] (fun v1 v2 v3 wx => v1 = .int .i64 nn ∧ v2 = .int .i64 er ∧ v3 = .int .i64 ln ∧ ∃ wy, Hid (Moved U wy gp D Y Fp) ∧ wy = wx)
  case first =>
    go_region_held3 (fun w' => w'.cell? ⟨gg, 0, none⟩ = some (.pointer (some ⟨gp, 0, none⟩)) ∧ w'.cell? ⟨W0.heap.size, 0, none⟩ = some (.int .i64 A1) ∧ w'.cell? ⟨W0.heap.size, 1, none⟩ = some (.slice ao A2.length ac)) (go_keep)
      (first
      | (go_at_call 22; refine (HTX.out _ ((Below.refl _ _).drew)).mono ?_; rintro e w2 ⟨⟨s, hs, rfl⟩, hb2⟩; have HB2 : Hid (Below U.heap.size U w2) := nx_trans (Below.refl _ _).drew hb2; have HSS := hideIt hs; have q1 := (HB2.out.cell (p := ⟨gg, 0, none⟩) hggU).trans x0; have q2 := (HB2.out.cell (p := ⟨W0.heap.size, 0, none⟩) hwU).trans c0; have q3 := (HB2.out.cell (p := ⟨W0.heap.size, 1, none⟩) hwU).trans c1; clear hb2 hs)
      | (go_at_call 24; refine (HPC.out _ _ HB2.out HSS.out).mono ?_; rintro e w3 ⟨rfl, hm3⟩; have HM3 : Hid (Moved U w3 gp D Y Fp) := Moved.after HB2.out hm3; have HX2 : Hid (w3.heap[gg]? = U.heap[gg]?) := gmoved_block HM3.out hggU HNF.out.1; have HO2 : Hid (w3.heap[W0.heap.size]? = U.heap[W0.heap.size]?) := gmoved_block HM3.out hwU HNF.out.2.1; have r1 := (World.cell?_of_block (a := ⟨gg, 0, none⟩) HX2.out).trans x0; have r2 := (World.cell?_of_block (a := ⟨W0.heap.size, 0, none⟩) HO2.out).trans c0; have r3 := (World.cell?_of_block (a := ⟨W0.heap.size, 1, none⟩) HO2.out).trans c1; clear hm3))
    all_goals
      go_wp2_with fail
      go_meet
      exact ⟨rfl, rfl, rfl, _, HM3.out, rfl⟩
  case rest =>
    obtain ⟨rfl, rfl, rfl, wy, HMV, rfl⟩ := hcut
    clear x0 c0 c1
    go_wp2_with fail
    go_ret2
    exact gPlay_of HG.out (nx_trans K0.out.2.2 KU.out.2.2) HMV.out (Below.refl _ _)
def StepR (A B : Int × List Pl) (kd a p : Int) (S : Sta) (X : Aux) (S' : Sta) (X' : Aux) (n er : Int) : Prop :=
  (kd = 1 ∧ S' = (cAsk S X.op a (gNm A.2 B.2 p)).S ∧ X' = { X with op := (cAsk S X.op a (gNm A.2 B.2 p)).op } ∧ n = (cAsk S X.op a (gNm A.2 B.2 p)).id ∧ er = ((cAsk S X.op a (gNm A.2 B.2 p)).err : Int)) ∨
  (kd = 2 ∧ S' = (cDone S X.op a).S ∧ X' = { X with op := (cDone S X.op a).op } ∧ n = 0 ∧ er = ((cDone S X.op a).err : Int)) ∨
  (kd = 3 ∧ S' = (cLeave S X.op a).S ∧ X' = { X with op := (cLeave S X.op a).op } ∧ n = 0 ∧ er = ((cLeave S X.op a).err : Int)) ∨
  (kd = 4 ∧ S' = (cCrash S X.op a).S ∧ X' = { X with op := (cCrash S X.op a).op } ∧ n = 0 ∧ er = ((cCrash S X.op a).err : Int)) ∨
  (kd = 5 ∧ S' = (cTurn S X).S ∧ X' = (cTurn S X).X ∧ n = (cTurn S X).n ∧ er = (cTurn S X).e) ∨
  (kd = 6 ∧ ∃ T, (T = A ∨ T = B) ∧ S' = (cReload S X ⟨T, 0, 0⟩).S ∧ X' = (cReload S X ⟨T, 0, 0⟩).X ∧ n = (cReload S X ⟨T, 0, 0⟩).n ∧ er = (cReload S X ⟨T, 0, 0⟩).e) ∨
  (kd = 7 ∧ S' = (cAbort S X).S ∧ X' = (cAbort S X).X ∧ n = (cAbort S X).n ∧ er = (cAbort S X).e) ∨
  ((kd ≤ 0 ∨ 7 < kd) ∧ S' = S ∧ X' = X ∧ n = 0 ∧ er = 0)
theorem gplayA (gg gp : Nat) (S : Sta) (X : Aux) (Fp : Nat → Prop) (A B : Int × List Pl) (ao : Option Addr) (ac : Nat) (bo : Option Addr) (bc : Nat) (w : World) (kd a p : Int) (g : Int × List Pl) (h : GameAt w gg gp S X Fp A B ao ac bo bc) (hg : Good S X.op) (hpl : Pln S X g) (hp2 : S.plan.length ≤ 1000) (hp1 : pot (S, X.op) + 1 ≤ 549755813888) (hA : Okt A.1 A.2) (hB : Okt B.1 B.2) (hh : X.hps.length ≤ 6) (hp : I64 p) :
    Calls Tryz.prog 11 #[.pointer (some ⟨gg, 0, none⟩), .agg #[.int .i64 kd, .int .i64 a, .int .i64 p]] w fun e w' => ∃ S' X' n er, GPlay S' X' n er gg gp Fp A B ao ac bo bc w w' e ∧ StepR A B kd a p S X S' X' n er := by
  have hl := hpl.tab.len
  have hA6 := hA.len
  have hB6 := hB.len
  have hok : Ok S X.op := ⟨hg.fine.inv, by omega, by omega⟩
  by_cases h1 : kd = 1
  · subst h1
    exact (gplay1 gg gp S X Fp A B ao ac bo bc w a p h hok hp1 (by omega) (by omega) hp).mono fun e w' hx => ⟨_, _, _, _, hx, .inl ⟨rfl, rfl, rfl, rfl, rfl⟩⟩
  · by_cases h2 : kd = 2
    · subst h2
      exact (gplay2 gg gp S X Fp A B ao ac bo bc w a p h hok hp1 (by omega) (by omega)).mono fun e w' hx => ⟨_, _, _, _, hx, .inr (.inl ⟨rfl, rfl, rfl, rfl, rfl⟩)⟩
    · by_cases h3 : kd = 3
      · subst h3
        exact (gplay3 gg gp S X Fp A B ao ac bo bc w a p h hok hp1 (by omega) (by omega)).mono fun e w' hx => ⟨_, _, _, _, hx, .inr (.inr (.inl ⟨rfl, rfl, rfl, rfl, rfl⟩))⟩
      · by_cases h4 : kd = 4
        · subst h4
          exact (gplay4 gg gp S X Fp A B ao ac bo bc w a p h hok hp1 (by omega) (by omega)).mono fun e w' hx => ⟨_, _, _, _, hx, .inr (.inr (.inr (.inl ⟨rfl, rfl, rfl, rfl, rfl⟩)))⟩
        · by_cases h5 : kd = 5
          · subst h5
            exact (gplay5 gg gp S X Fp A B ao ac bo bc w a p h hok (by omega) hp2 (fun s hs => okN_ok (hpl.ok s hs))).mono fun e w' hx => ⟨_, _, _, _, hx, .inr (.inr (.inr (.inr (.inl ⟨rfl, rfl, rfl, rfl, rfl⟩))))⟩
          · by_cases h6 : kd = 6
            · subst h6
              cases hodd : (bits BinOp.and IntKind.i64 a 1 == 1) with
              | true => exact (gplay6b gg gp S X Fp A B ao ac bo bc w a p h hodd hl hp2 hB).mono fun e w' hx => ⟨_, _, _, _, hx, .inr (.inr (.inr (.inr (.inr (.inl ⟨rfl, B, .inr rfl, rfl, rfl, rfl, rfl⟩)))))⟩
              | false => exact (gplay6a gg gp S X Fp A B ao ac bo bc w a p h hodd hl hp2 hA).mono fun e w' hx => ⟨_, _, _, _, hx, .inr (.inr (.inr (.inr (.inr (.inl ⟨rfl, A, .inl rfl, rfl, rfl, rfl, rfl⟩)))))⟩
            · by_cases h7 : kd = 7
              · subst h7
                exact (gplay7 gg gp S X Fp A B ao ac bo bc w a p h hl hh).mono fun e w' hx => ⟨_, _, _, _, hx, .inr (.inr (.inr (.inr (.inr (.inr (.inl ⟨rfl, rfl, rfl, rfl, rfl⟩))))))⟩
              · exact (gplay0 gg gp S X Fp A B ao ac bo bc w kd a p h (by omega)).mono fun e w' hx => ⟨_, _, _, _, hx, .inr (.inr (.inr (.inr (.inr (.inr (.inr ⟨by omega, rfl, rfl, rfl, rfl⟩))))))⟩
end Lw
end Go.Proofs.YtohbonfngeblkaaGreat
