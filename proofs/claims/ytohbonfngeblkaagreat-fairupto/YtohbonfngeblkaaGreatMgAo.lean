import Derived.Test.YtohbonfngeblkaaGreatMgAn
import Derived.Deep.RegionHeld3
namespace Go.Proofs.YtohbonfngeblkaaGreat
open Go.RowKit
namespace Lw
open Co
abbrev bOpk (k a p : Int) : Obj := .cells #[.int .i64 k, .int .i64 a, .int .i64 p] 39
def GPlay (S' : Sta) (X' : Aux) (n er : Int) (gg gp : Nat) (Fp : Nat → Prop) (A B : Int × List Pl) (ao : Option Addr) (ac : Nat) (bo : Option Addr) (bc : Nat) (w w' : World) (e : Ending) : Prop :=
  e = .returned (.tuple #[.int .i64 n, .int .i64 er]) ∧ ∃ Fp', GameAt w' gg gp S' X' Fp' A B ao ac bo bc ∧ (∀ y, Fp' y → Fp y ∨ w.heap.size ≤ y) ∧ Chg Fp w w'
theorem gmoved_block {w w' : World} {gp g : Nat} {S : Sta} {X : Aux} {F : Nat → Prop} (h : Moved w w' gp S X F) (hg : g < w.heap.size) (hF : ¬ F g) : w'.heap[g]? = w.heap[g]? := by
  obtain ⟨_, _, _, hc⟩ := h
  exact hc.block g hg hF
theorem gPlay_of {w W0 wy w' : World} {gg gp : Nat} {S : Sta} {X : Aux} {Fp : Nat → Prop} {A B : Int × List Pl} {ao : Option Addr} {ac : Nat} {bo : Option Addr} {bc : Nat} {S' : Sta} {X' : Aux} {n er : Int} (h : GameAt w gg gp S X Fp A B ao ac bo bc) (hb : Below w.heap.size w W0) (hm : Moved W0 wy gp S' X' Fp) (hb2 : Below wy.heap.size wy w') : GPlay S' X' n er gg gp Fp A B ao ac bo bc w w' (.returned (.tuple #[.int .i64 n, .int .i64 er])) := by
  obtain ⟨Fp', h1, h2, h3⟩ := h.moved (Moved.below (Moved.after hb hm) hb2)
  exact ⟨rfl, Fp', h1, h2, h3⟩
set_option maxRecDepth 20000 in
set_option maxHeartbeats 16000000 in
theorem gplay1 (gg gp : Nat) (S : Sta) (X : Aux) (Fp : Nat → Prop) (A B : Int × List Pl) (ao : Option Addr) (ac : Nat) (bo : Option Addr) (bc : Nat) (w : World) (a p : Int) (h : GameAt w gg gp S X Fp A B ao ac bo bc) (hok : Ok S X.op) (hp1 : pot (S, X.op) + 1 ≤ 549755813888) (hA : A.2.length ≤ 100) (hB : B.2.length ≤ 100) (hp : I64 p) :
    Calls Tryz.prog 11 #[.pointer (some ⟨gg, 0, none⟩), .agg #[.int .i64 1, .int .i64 a, .int .i64 p]] w fun e w' => GPlay (cAsk S X.op a (gNm A.2 B.2 p)).S { X with op := (cAsk S X.op a (gNm A.2 B.2 p)).op } (cAsk S X.op a (gNm A.2 B.2 p)).id ((cAsk S X.op a (gNm A.2 B.2 p)).err : Int) gg gp Fp A B ao ac bo bc w w' e := by
  obtain ⟨W0, hW0⟩ : ∃ W0, W0 = w.alloc (bOpk 1 a p) := ⟨_, rfl⟩
  have hbW : Below w.heap.size w W0 := by rw [hW0]; exact nx_alloc _ _
  have K0 : Hid (W0 = w.alloc (bOpk 1 a p) ∧ W0.heap[w.heap.size]? = some (bOpk 1 a p) ∧ Below w.heap.size w W0) := ⟨hW0, by rw [hW0]; exact heap_alloc_at _ _ rfl, hbW⟩
  have HG := hideIt h
  have HG0 := hideIt (h.below hbW)
  obtain ⟨s, hs⟩ : ∃ s, gNm A.2 B.2 p = s := ⟨_, rfl⟩
  rw [hs]
  obtain ⟨⟨D, t, id, er⟩, hcr⟩ : ∃ r, (cAsk S X.op a s) = r := ⟨_, rfl⟩
  rw [hcr]
  have HNM : Hid (∀ u2, Below W0.heap.size W0 u2 → Calls Tryz.prog 35 #[.pointer (some ⟨gg, 0, none⟩), .int .i64 p] u2 fun e w' => e = .returned (.string s) ∧ Below u2.heap.size u2 w') := by
    intro u2 hu
    have h2 := (h.below hbW).below hu
    have := gName_flat gg gp A.1 ao _ ac B.1 bo _ bc A.2 B.2 p u2 h2.box h2.a h2.b rfl rfl hA hB hp
    rw [hs] at this
    exact this
  have HPC : Hid (∀ u2, Below W0.heap.size W0 u2 → Calls Tryz.prog 29 #[.pointer (some ⟨gp, 0, none⟩), .int .i64 a, .string s] u2 fun e w' => e = .returned (.tuple #[.int .i64 id, .int .i64 (er : Int)]) ∧ Moved u2 w' gp D { X with op := t } Fp) := by
    intro u2 hu
    have := pAsk gp a s S X Fp u2 ((h.below hbW).below hu).desk hok hp1
    rw [hcr] at this
    exact this
  have HNF : Hid (¬ Fp gg ∧ ¬ Fp w.heap.size) := ⟨h.dg, fun hf => by have := h.desk.lt _ hf; omega⟩
  clear h hok hp1 hA hB hW0 hbW hcr hs
  obtain ⟨x0, x1, x2, x3, x4⟩ := gblk5 HG0.out.box
  obtain ⟨b0, b1, b2⟩ := gblk3 K0.out.2.1
  have hgg0 := HG0.out.lt
  have hw0 : w.heap.size < W0.heap.size := (Array.getElem?_eq_some_iff.1 K0.out.2.1).1
  go_enter Tryz.func11, Tryz.ntmps11
  go_upto_region 3 with fail
  rw [← K0.out.1]
  go_cut [4, 5] (fun v1 v wx => v1 = .int .i64 id ∧ v = .int .i64 (er : Int) ∧ ∃ wy, Hid (Moved W0 wy gp D { X with op := t } Fp) ∧ wy = wx)
  case first =>
    go_region_held3 (fun w' => w'.cell? ⟨gg, 0, none⟩ = some (.pointer (some ⟨gp, 0, none⟩)) ∧ w'.cell? ⟨w.heap.size, 1, none⟩ = some (.int .i64 a) ∧ w'.cell? ⟨w.heap.size, 2, none⟩ = some (.int .i64 p)) (go_keep)
      (first
      | (go_at_call 35; refine (HNM.out _ ((Below.refl _ _).drew)).mono ?_; rintro e w2 ⟨rfl, hb2⟩; have HB2 : Hid (Below W0.heap.size W0 w2) := nx_trans (Below.refl _ _).drew hb2; have q1 := (HB2.out.cell (p := ⟨gg, 0, none⟩) hgg0).trans x0; have q2 := (HB2.out.cell (p := ⟨w.heap.size, 1, none⟩) hw0).trans b1; have q3 := (HB2.out.cell (p := ⟨w.heap.size, 2, none⟩) hw0).trans b2; clear hb2)
      | (go_at_call 29; refine (HPC.out _ HB2.out).mono ?_; rintro e w3 ⟨rfl, hm3⟩; have HM3 : Hid (Moved W0 w3 gp D { X with op := t } Fp) := Moved.after HB2.out hm3; have HX2 : Hid (w3.heap[gg]? = W0.heap[gg]?) := gmoved_block HM3.out hgg0 HNF.out.1; have HO2 : Hid (w3.heap[w.heap.size]? = W0.heap[w.heap.size]?) := gmoved_block HM3.out hw0 HNF.out.2; have r1 := (World.cell?_of_block (a := ⟨gg, 0, none⟩) HX2.out).trans x0; have r2 := (World.cell?_of_block (a := ⟨w.heap.size, 1, none⟩) HO2.out).trans b1; have r3 := (World.cell?_of_block (a := ⟨w.heap.size, 2, none⟩) HO2.out).trans b2; clear hm3))
    all_goals
      go_wp2_with fail
      go_meet
      exact ⟨rfl, rfl, _, HM3.out, rfl⟩
  case rest =>
    obtain ⟨rfl, rfl, wy, HMV, rfl⟩ := hcut
    clear x0 x1 x2 x3 x4 b0 b1 b2
    go_wp2_with fail
    go_ret2
    exact gPlay_of HG.out K0.out.2.2 HMV.out (Below.refl _ _)
set_option maxRecDepth 20000 in
set_option maxHeartbeats 16000000 in
theorem gplay2 (gg gp : Nat) (S : Sta) (X : Aux) (Fp : Nat → Prop) (A B : Int × List Pl) (ao : Option Addr) (ac : Nat) (bo : Option Addr) (bc : Nat) (w : World) (a p : Int) (h : GameAt w gg gp S X Fp A B ao ac bo bc) (hok : Ok S X.op) (_hp1 : pot (S, X.op) + 1 ≤ 549755813888) (_hA : A.2.length ≤ 100) (_hB : B.2.length ≤ 100) :
    Calls Tryz.prog 11 #[.pointer (some ⟨gg, 0, none⟩), .agg #[.int .i64 2, .int .i64 a, .int .i64 p]] w fun e w' => GPlay (cDone S X.op a).S { X with op := (cDone S X.op a).op } 0 ((cDone S X.op a).err : Int) gg gp Fp A B ao ac bo bc w w' e := by
  obtain ⟨W0, hW0⟩ : ∃ W0, W0 = w.alloc (bOpk 2 a p) := ⟨_, rfl⟩
  have hbW : Below w.heap.size w W0 := by rw [hW0]; exact nx_alloc _ _
  have K0 : Hid (W0 = w.alloc (bOpk 2 a p) ∧ W0.heap[w.heap.size]? = some (bOpk 2 a p) ∧ Below w.heap.size w W0) := ⟨hW0, by rw [hW0]; exact heap_alloc_at _ _ rfl, hbW⟩
  have HG := hideIt h
  have HG0 := hideIt (h.below hbW)
  obtain ⟨⟨D, t, id, er⟩, hcr⟩ : ∃ r, (cDone S X.op a) = r := ⟨_, rfl⟩
  rw [hcr]
  have HPC : Hid (∀ u2, Below W0.heap.size W0 u2 → Calls Tryz.prog 30 #[.pointer (some ⟨gp, 0, none⟩), .int .i64 a] u2 fun e w' => e = .returned (.int .i64 (er : Int)) ∧ Moved u2 w' gp D { X with op := t } Fp) := by
    intro u2 hu
    have := pDone gp a S X Fp u2 ((h.below hbW).below hu).desk hok
    rw [hcr] at this
    exact this
  have HNF : Hid (¬ Fp gg ∧ ¬ Fp w.heap.size) := ⟨h.dg, fun hf => by have := h.desk.lt _ hf; omega⟩
  clear h hok hW0 hbW hcr
  obtain ⟨x0, x1, x2, x3, x4⟩ := gblk5 HG0.out.box
  obtain ⟨b0, b1, b2⟩ := gblk3 K0.out.2.1
  have hgg0 := HG0.out.lt
  have hw0 : w.heap.size < W0.heap.size := (Array.getElem?_eq_some_iff.1 K0.out.2.1).1
  go_enter Tryz.func11, Tryz.ntmps11
  go_upto_region 5 with fail
  rw [← K0.out.1]
  go_cut [6] (fun v wx => v = .int .i64 (er : Int) ∧ ∃ wy, Hid (Moved W0 wy gp D { X with op := t } Fp) ∧ wy = wx)
  case first =>
    go_region_held3 (fun w' => w'.cell? ⟨gg, 0, none⟩ = some (.pointer (some ⟨gp, 0, none⟩)) ∧ w'.cell? ⟨w.heap.size, 1, none⟩ = some (.int .i64 a)) (go_keep)
      ((go_at_call 30; refine (HPC.out _ ((Below.refl _ _).drew)).mono ?_; rintro e w3 ⟨rfl, hm3⟩; have HM3 : Hid (Moved W0 w3 gp D { X with op := t } Fp) := Moved.after (Below.refl _ _).drew hm3; have HX2 : Hid (w3.heap[gg]? = W0.heap[gg]?) := gmoved_block HM3.out hgg0 HNF.out.1; have HO2 : Hid (w3.heap[w.heap.size]? = W0.heap[w.heap.size]?) := gmoved_block HM3.out hw0 HNF.out.2; have r1 := (World.cell?_of_block (a := ⟨gg, 0, none⟩) HX2.out).trans x0; have r2 := (World.cell?_of_block (a := ⟨w.heap.size, 1, none⟩) HO2.out).trans b1; clear hm3))
    all_goals
      go_wp2_with fail
      go_meet
      exact ⟨rfl, _, HM3.out, rfl⟩
  case rest =>
    obtain ⟨rfl, wy, HMV, rfl⟩ := hcut
    clear x0 x1 x2 x3 x4 b0 b1 b2
    go_wp2_with fail
    go_ret2
    exact gPlay_of HG.out K0.out.2.2 HMV.out (Below.refl _ _)
set_option maxRecDepth 20000 in
set_option maxHeartbeats 16000000 in
theorem gplay3 (gg gp : Nat) (S : Sta) (X : Aux) (Fp : Nat → Prop) (A B : Int × List Pl) (ao : Option Addr) (ac : Nat) (bo : Option Addr) (bc : Nat) (w : World) (a p : Int) (h : GameAt w gg gp S X Fp A B ao ac bo bc) (hok : Ok S X.op) (_hp1 : pot (S, X.op) + 1 ≤ 549755813888) (_hA : A.2.length ≤ 100) (_hB : B.2.length ≤ 100) :
    Calls Tryz.prog 11 #[.pointer (some ⟨gg, 0, none⟩), .agg #[.int .i64 3, .int .i64 a, .int .i64 p]] w fun e w' => GPlay (cLeave S X.op a).S { X with op := (cLeave S X.op a).op } 0 ((cLeave S X.op a).err : Int) gg gp Fp A B ao ac bo bc w w' e := by
  obtain ⟨W0, hW0⟩ : ∃ W0, W0 = w.alloc (bOpk 3 a p) := ⟨_, rfl⟩
  have hbW : Below w.heap.size w W0 := by rw [hW0]; exact nx_alloc _ _
  have K0 : Hid (W0 = w.alloc (bOpk 3 a p) ∧ W0.heap[w.heap.size]? = some (bOpk 3 a p) ∧ Below w.heap.size w W0) := ⟨hW0, by rw [hW0]; exact heap_alloc_at _ _ rfl, hbW⟩
  have HG := hideIt h
  have HG0 := hideIt (h.below hbW)
  obtain ⟨⟨D, t, id, er⟩, hcr⟩ : ∃ r, (cLeave S X.op a) = r := ⟨_, rfl⟩
  rw [hcr]
  have HPC : Hid (∀ u2, Below W0.heap.size W0 u2 → Calls Tryz.prog 36 #[.pointer (some ⟨gp, 0, none⟩), .int .i64 a] u2 fun e w' => e = .returned (.int .i64 (er : Int)) ∧ Moved u2 w' gp D { X with op := t } Fp) := by
    intro u2 hu
    have := pLeave gp a S X Fp u2 ((h.below hbW).below hu).desk hok
    rw [hcr] at this
    exact this
  have HNF : Hid (¬ Fp gg ∧ ¬ Fp w.heap.size) := ⟨h.dg, fun hf => by have := h.desk.lt _ hf; omega⟩
  clear h hok hW0 hbW hcr
  obtain ⟨x0, x1, x2, x3, x4⟩ := gblk5 HG0.out.box
  obtain ⟨b0, b1, b2⟩ := gblk3 K0.out.2.1
  have hgg0 := HG0.out.lt
  have hw0 : w.heap.size < W0.heap.size := (Array.getElem?_eq_some_iff.1 K0.out.2.1).1
  go_enter Tryz.func11, Tryz.ntmps11
  go_upto_region 8 with fail
  rw [← K0.out.1]
  go_cut [7] (fun v wx => v = .int .i64 (er : Int) ∧ ∃ wy, Hid (Moved W0 wy gp D { X with op := t } Fp) ∧ wy = wx)
  case first =>
    go_region_held3 (fun w' => w'.cell? ⟨gg, 0, none⟩ = some (.pointer (some ⟨gp, 0, none⟩)) ∧ w'.cell? ⟨w.heap.size, 1, none⟩ = some (.int .i64 a)) (go_keep)
      ((go_at_call 36; refine (HPC.out _ ((Below.refl _ _).drew)).mono ?_; rintro e w3 ⟨rfl, hm3⟩; have HM3 : Hid (Moved W0 w3 gp D { X with op := t } Fp) := Moved.after (Below.refl _ _).drew hm3; have HX2 : Hid (w3.heap[gg]? = W0.heap[gg]?) := gmoved_block HM3.out hgg0 HNF.out.1; have HO2 : Hid (w3.heap[w.heap.size]? = W0.heap[w.heap.size]?) := gmoved_block HM3.out hw0 HNF.out.2; have r1 := (World.cell?_of_block (a := ⟨gg, 0, none⟩) HX2.out).trans x0; have r2 := (World.cell?_of_block (a := ⟨w.heap.size, 1, none⟩) HO2.out).trans b1; clear hm3))
    all_goals
      go_wp2_with fail
      go_meet
      exact ⟨rfl, _, HM3.out, rfl⟩
  case rest =>
    obtain ⟨rfl, wy, HMV, rfl⟩ := hcut
    clear x0 x1 x2 x3 x4 b0 b1 b2
    go_wp2_with fail
    go_ret2
    exact gPlay_of HG.out K0.out.2.2 HMV.out (Below.refl _ _)
set_option maxRecDepth 20000 in
set_option maxHeartbeats 16000000 in
theorem gplay4 (gg gp : Nat) (S : Sta) (X : Aux) (Fp : Nat → Prop) (A B : Int × List Pl) (ao : Option Addr) (ac : Nat) (bo : Option Addr) (bc : Nat) (w : World) (a p : Int) (h : GameAt w gg gp S X Fp A B ao ac bo bc) (hok : Ok S X.op) (_hp1 : pot (S, X.op) + 1 ≤ 549755813888) (_hA : A.2.length ≤ 100) (_hB : B.2.length ≤ 100) :
    Calls Tryz.prog 11 #[.pointer (some ⟨gg, 0, none⟩), .agg #[.int .i64 4, .int .i64 a, .int .i64 p]] w fun e w' => GPlay (cCrash S X.op a).S { X with op := (cCrash S X.op a).op } 0 ((cCrash S X.op a).err : Int) gg gp Fp A B ao ac bo bc w w' e := by
  obtain ⟨W0, hW0⟩ : ∃ W0, W0 = w.alloc (bOpk 4 a p) := ⟨_, rfl⟩
  have hbW : Below w.heap.size w W0 := by rw [hW0]; exact nx_alloc _ _
  have K0 : Hid (W0 = w.alloc (bOpk 4 a p) ∧ W0.heap[w.heap.size]? = some (bOpk 4 a p) ∧ Below w.heap.size w W0) := ⟨hW0, by rw [hW0]; exact heap_alloc_at _ _ rfl, hbW⟩
  have HG := hideIt h
  have HG0 := hideIt (h.below hbW)
  obtain ⟨⟨D, t, id, er⟩, hcr⟩ : ∃ r, (cCrash S X.op a) = r := ⟨_, rfl⟩
  rw [hcr]
  have HPC : Hid (∀ u2, Below W0.heap.size W0 u2 → Calls Tryz.prog 20 #[.pointer (some ⟨gp, 0, none⟩), .int .i64 a] u2 fun e w' => e = .returned (.int .i64 (er : Int)) ∧ Moved u2 w' gp D { X with op := t } Fp) := by
    intro u2 hu
    have := pCrash gp a S X Fp u2 ((h.below hbW).below hu).desk hok
    rw [hcr] at this
    exact this
  have HNF : Hid (¬ Fp gg ∧ ¬ Fp w.heap.size) := ⟨h.dg, fun hf => by have := h.desk.lt _ hf; omega⟩
  clear h hok hW0 hbW hcr
  obtain ⟨x0, x1, x2, x3, x4⟩ := gblk5 HG0.out.box
  obtain ⟨b0, b1, b2⟩ := gblk3 K0.out.2.1
  have hgg0 := HG0.out.lt
  have hw0 : w.heap.size < W0.heap.size := (Array.getElem?_eq_some_iff.1 K0.out.2.1).1
  go_enter Tryz.func11, Tryz.ntmps11
  go_upto_region 11 with fail
  rw [← K0.out.1]
  go_cut [8] (fun v wx => v = .int .i64 (er : Int) ∧ ∃ wy, Hid (Moved W0 wy gp D { X with op := t } Fp) ∧ wy = wx)
  case first =>
    go_region_held3 (fun w' => w'.cell? ⟨gg, 0, none⟩ = some (.pointer (some ⟨gp, 0, none⟩)) ∧ w'.cell? ⟨w.heap.size, 1, none⟩ = some (.int .i64 a)) (go_keep)
      ((go_at_call 20; refine (HPC.out _ ((Below.refl _ _).drew)).mono ?_; rintro e w3 ⟨rfl, hm3⟩; have HM3 : Hid (Moved W0 w3 gp D { X with op := t } Fp) := Moved.after (Below.refl _ _).drew hm3; have HX2 : Hid (w3.heap[gg]? = W0.heap[gg]?) := gmoved_block HM3.out hgg0 HNF.out.1; have HO2 : Hid (w3.heap[w.heap.size]? = W0.heap[w.heap.size]?) := gmoved_block HM3.out hw0 HNF.out.2; have r1 := (World.cell?_of_block (a := ⟨gg, 0, none⟩) HX2.out).trans x0; have r2 := (World.cell?_of_block (a := ⟨w.heap.size, 1, none⟩) HO2.out).trans b1; clear hm3))
    all_goals
      go_wp2_with fail
      go_meet
      exact ⟨rfl, _, HM3.out, rfl⟩
  case rest =>
    obtain ⟨rfl, wy, HMV, rfl⟩ := hcut
    clear x0 x1 x2 x3 x4 b0 b1 b2
    go_wp2_with fail
    go_ret2
    exact gPlay_of HG.out K0.out.2.2 HMV.out (Below.refl _ _)
set_option maxRecDepth 20000 in
set_option maxHeartbeats 2000000 in
theorem gplay0 (gg gp : Nat) (S : Sta) (X : Aux) (Fp : Nat → Prop) (A B : Int × List Pl) (ao : Option Addr) (ac : Nat) (bo : Option Addr) (bc : Nat) (w : World) (kd a p : Int) (h : GameAt w gg gp S X Fp A B ao ac bo bc) (hkd : kd ≤ 0 ∨ 7 < kd) :
    Calls Tryz.prog 11 #[.pointer (some ⟨gg, 0, none⟩), .agg #[.int .i64 kd, .int .i64 a, .int .i64 p]] w fun e w' => GPlay S X 0 0 gg gp Fp A B ao ac bo bc w w' e := by
  have K0 : Hid (GPlay S X 0 0 gg gp Fp A B ao ac bo bc w (w.alloc (bOpk kd a p)) (.returned (.tuple #[.int .i64 0, .int .i64 0]))) := gPlay_of h (nx_alloc _ _) (Moved.refl (h.below (nx_alloc _ _)).desk) (Below.refl _ _)
  have e1 : (kd == 1) = false := by rw [beq_eq_false_iff_ne]; omega
  have e2 : (kd == 2) = false := by rw [beq_eq_false_iff_ne]; omega
  have e3 : (kd == 3) = false := by rw [beq_eq_false_iff_ne]; omega
  have e4 : (kd == 4) = false := by rw [beq_eq_false_iff_ne]; omega
  have e5 : (kd == 5) = false := by rw [beq_eq_false_iff_ne]; omega
  have e6 : (kd == 6) = false := by rw [beq_eq_false_iff_ne]; omega
  have e7 : (kd == 7) = false := by rw [beq_eq_false_iff_ne]; omega
  clear h hkd
  go_enter Tryz.func11, Tryz.ntmps11
  go_wp2_with fail
  go_ret2
  exact K0.out
end Lw
end Go.Proofs.YtohbonfngeblkaaGreat
