import Derived.Test.YtohbonfngeblkaaGreatMnV
import Derived.Deep.RegionHeld3
import Derived.Test.YtohbonfngeblkaaGreatMnK
import Derived.Test.YtohbonfngeblkaaGreatMnU
namespace Go.Proofs.YtohbonfngeblkaaGreat
open Go.RowKit
namespace Lw
open Co
abbrev bOpk (k a p : Int) : Obj := .cells #[.int .i64 k, .int .i64 a, .int .i64 p] 39
def GPlay (S' : Sta) (X' : Aux) (n er : Int) (gg gp : Nat) (Fp : Nat → Prop) (A B : Int × List Pl) (ao : Option Addr) (ac : Nat) (bo : Option Addr) (bc : Nat) (w w' : World) (e : Ending) : Prop :=
  e = .returned (.tuple #[.int .i64 n, .int .i64 er]) ∧ ∃ Fp', GameAt w' gg gp S' X' Fp' A B ao ac bo bc ∧ (∀ y, Fp' y → Fp y ∨ w.heap.size ≤ y) ∧ Chg Fp w w'
theorem gmoved_block {w w' : World} {gp g : Nat} {S : Sta} {X : Aux} {F : Nat → Prop} (h : Moved w w' gp S X F) (hg : g < w.heap.size) (hF : ¬ F g) : w'.heap[g]? = w.heap[g]? := by
  obtain ⟨_, _, _, hc⟩ := h
  exact hc.block g hg hF
theorem gPlay_of {w W0 wy w' : World} {gg gp : Nat} {S : Sta} {X : Aux} {Fp : Nat → Prop} {A B : Int × List Pl} {ao : Option Addr} {ac : Nat} {bo : Option Addr} {bc : Nat} {S' : Sta} {X' : Aux} {n er : Int} (h : GameAt w gg gp S X Fp A B ao ac bo bc) (hb : Below w.heap.size w W0) (hm : Moved W0 wy gp S' X' Fp) (hb2 : Below wy.heap.size wy w') : GPlay S' X' n er gg gp Fp A B ao ac bo bc w w' (.returned (.tuple #[.int .i64 n, .int .i64 er])) := by
  obtain ⟨Fp', h1, h2, h3⟩ := h.moved (Moved.below (Moved.after hb hm) hb2)
  exact ⟨rfl, Fp', h1, h2, h3⟩
set_option maxRecDepth 20000 in
set_option maxHeartbeats 16000000 in
theorem gplay1 (gg gp : Nat) (S : Sta) (X : Aux) (Fp : Nat → Prop) (A B : Int × List Pl) (ao : Option Addr) (ac : Nat) (bo : Option Addr) (bc : Nat) (w : World) (a p : Int) (h : GameAt w gg gp S X Fp A B ao ac bo bc) (hok : Ok S X.op) (hp1 : pot (S, X.op) + 1 ≤ 549755813888) (hA : A.2.length ≤ 100) (hB : B.2.length ≤ 100) (hp : I64 p) :
    Calls Tryz.prog 11 #[.pointer (some ⟨gg, 0, none⟩), .agg #[.int .i64 1, .int .i64 a, .int .i64 p]] w fun e w' => GPlay (cAsk S X.op a (gNm A.2 B.2 p)).S { X with op := (cAsk S X.op a (gNm A.2 B.2 p)).op } (cAsk S X.op a (gNm A.2 B.2 p)).id ((cAsk S X.op a (gNm A.2 B.2 p)).err : Int) gg gp Fp A B ao ac bo bc w w' e := by
  obtain ⟨W0, hW0⟩ : ∃ W0, W0 = w.alloc (bOpk 1 a p) := ⟨_, rfl⟩
  have hbW : Below w.heap.size w W0 := by rw [hW0]; exact nx_alloc _ _
  have K0 : Hid (W0 = w.alloc (bOpk 1 a p) ∧ W0.heap[w.heap.size]? = some (bOpk 1 a p) ∧ Below w.heap.size w W0) := ⟨hW0, by rw [hW0]; exact heap_alloc_at _ _ rfl, hbW⟩
  have HG := hideIt h
  have HG0 := hideIt (h.below hbW)
  obtain ⟨s, hs⟩ : ∃ s, gNm A.2 B.2 p = s := ⟨_, rfl⟩
  rw [hs]
  obtain ⟨⟨D, t, id, er⟩, hcr⟩ : ∃ r, (cAsk S X.op a s) = r := ⟨_, rfl⟩
  rw [hcr]
  have HNM : Hid (∀ u2, Below W0.heap.size W0 u2 → Calls Tryz.prog 35 #[.pointer (some ⟨gg, 0, none⟩), .int .i64 p] u2 fun e w' => e = .returned (.string s) ∧ Below u2.heap.size u2 w') := by
    intro u2 hu
    have h2 := (h.below hbW).below hu
    have := gName_flat gg gp A.1 ao _ ac B.1 bo _ bc A.2 B.2 p u2 h2.box h2.a h2.b rfl rfl hA hB hp
    rw [hs] at this
    exact this
  have HPC : Hid (∀ u2, Below W0.heap.size W0 u2 → Calls Tryz.prog 29 #[.pointer (some ⟨gp, 0, none⟩), .int .i64 a, .string s] u2 fun e w' => e = .returned (.tuple #[.int .i64 id, .int .i64 (er : Int)]) ∧ Moved u2 w' gp D { X with op := t } Fp) := by
    intro u2 hu
    have := pAsk gp a s S X Fp u2 ((h.below hbW).below hu).desk hok hp1
    rw [hcr] at this
    exact this
  have HNF : Hid (¬ Fp gg ∧ ¬ Fp w.heap.size) := ⟨h.dg, fun hf => by have := h.desk.lt _ hf; omega⟩
  clear h hok hp1 hA hB hW0 hbW hcr hs
  obtain ⟨x0, x1, x2, x3, x4⟩ := gblk5 HG0.out.box
  obtain ⟨b0, b1, b2⟩ := gblk3 K0.out.2.1
  have hgg0 := HG0.out.lt
  have hw0 : w.heap.size < W0.heap.size := (Array.getElem?_eq_some_iff.1 K0.out.2.1).1
  go_enter Tryz.func11, Tryz.ntmps11
  go_upto_region 3 with fail
  rw [← K0.out.1]
  go_cut [4, 5] (fun v1 v wx => v1 = .int .i64 id ∧ v = .int .i64 (er : Int) ∧ ∃ wy, Hid (Moved W0 wy gp D { X with op := t } Fp) ∧ wy = wx)
  case first =>
    go_region_held3 (fun w' => w'.cell? ⟨gg, 0, none⟩ = some (.pointer (some ⟨gp, 0, none⟩)) ∧ w'.cell? ⟨w.heap.size, 1, none⟩ = some (.int .i64 a) ∧ w'.cell? ⟨w.heap.size, 2, none⟩ = some (.int .i64 p)) (go_keep)
      (first
      | (go_at_call 35; refine (HNM.out _ ((Below.refl _ _).drew)).mono ?_; rintro e w2 ⟨rfl, hb2⟩; have HB2 : Hid (Below W0.heap.size W0 w2) := nx_trans (Below.refl _ _).drew hb2; have q1 := (HB2.out.cell (p := ⟨gg, 0, none⟩) hgg0).trans x0; have q2 := (HB2.out.cell (p := ⟨w.heap.size, 1, none⟩) hw0).trans b1; have q3 := (HB2.out.cell (p := ⟨w.heap.size, 2, none⟩) hw0).trans b2; clear hb2)
      | (go_at_call 29; refine (HPC.out _ HB2.out).mono ?_; rintro e w3 ⟨rfl, hm3⟩; have HM3 : Hid (Moved W0 w3 gp D { X with op := t } Fp) := Moved.after HB2.out hm3; have HX2 : Hid (w3.heap[gg]? = W0.heap[gg]?) := gmoved_block HM3.out hgg0 HNF.out.1; have HO2 : Hid (w3.heap[w.heap.size]? = W0.heap[w.heap.size]?) := gmoved_block HM3.out hw0 HNF.out.2; have r1 := (World.cell?_of_block (a := ⟨gg, 0, none⟩) HX2.out).trans x0; have r2 := (World.cell?_of_block (a := ⟨w.heap.size, 1, none⟩) HO2.out).trans b1; have r3 := (World.cell?_of_block (a := ⟨w.heap.size, 2, none⟩) HO2.out).trans b2; clear hm3))
    all_goals
      go_wp2_with fail
      go_meet
      exact ⟨rfl, rfl, _, HM3.out, rfl⟩
  case rest =>
    obtain ⟨rfl, rfl, wy, HMV, rfl⟩ := hcut
    clear x0 x1 x2 x3 x4 b0 b1 b2
    go_wp2_with fail
    go_ret2
    exact gPlay_of HG.out K0.out.2.2 HMV.out (Below.refl _ _)
set_option maxRecDepth 20000 in
set_option maxHeartbeats 16000000 in
theorem gplay2 (gg gp : Nat) (S : Sta) (X : Aux) (Fp : Nat → Prop) (A B : Int × List Pl) (ao : Option Addr) (ac : Nat) (bo : Option Addr) (bc : Nat) (w : World) (a p : Int) (h : GameAt w gg gp S X Fp A B ao ac bo bc) (hok : Ok S X.op) (_hp1 : pot (S, X.op) + 1 ≤ 549755813888) (_hA : A.2.length ≤ 100) (_hB : B.2.length ≤ 100) :
    Calls Tryz.prog 11 #[.pointer (some ⟨gg, 0, none⟩), .agg #[.int .i64 2, .int .i64 a, .int .i64 p]] w fun e w' => GPlay (cDone S X.op a).S { X with op := (cDone S X.op a).op } 0 ((cDone S X.op a).err : Int) gg gp Fp A B ao ac bo bc w w' e := by
  obtain ⟨W0, hW0⟩ : ∃ W0, W0 = w.alloc (bOpk 2 a p) := ⟨_, rfl⟩
  have hbW : Below w.heap.size w W0 := by rw [hW0]; exact nx_alloc _ _
  have K0 : Hid (W0 = w.alloc (bOpk 2 a p) ∧ W0.heap[w.heap.size]? = some (bOpk 2 a p) ∧ Below w.heap.size w W0) := ⟨hW0, by rw [hW0]; exact heap_alloc_at _ _ rfl, hbW⟩
  have HG := hideIt h
  have HG0 := hideIt (h.below hbW)
  obtain ⟨⟨D, t, id, er⟩, hcr⟩ : ∃ r, (cDone S X.op a) = r := ⟨_, rfl⟩
  rw [hcr]
  have HPC : Hid (∀ u2, Below W0.heap.size W0 u2 → Calls Tryz.prog 30 #[.pointer (some ⟨gp, 0, none⟩), .int .i64 a] u2 fun e w' => e = .returned (.int .i64 (er : Int)) ∧ Moved u2 w' gp D { X with op := t } Fp) := by
    intro u2 hu
    have := pDone gp a S X Fp u2 ((h.below hbW).below hu).desk hok
    rw [hcr] at this
    exact this
  have HNF : Hid (¬ Fp gg ∧ ¬ Fp w.heap.size) := ⟨h.dg, fun hf => by have := h.desk.lt _ hf; omega⟩
  clear h hok hW0 hbW hcr
  obtain ⟨x0, x1, x2, x3, x4⟩ := gblk5 HG0.out.box
  obtain ⟨b0, b1, b2⟩ := gblk3 K0.out.2.1
  have hgg0 := HG0.out.lt
  have hw0 : w.heap.size < W0.heap.size := (Array.getElem?_eq_some_iff.1 K0.out.2.1).1
  go_enter Tryz.func11, Tryz.ntmps11
  go_upto_region 5 with fail
  rw [← K0.out.1]
  go_cut [6] (fun v wx => v = .int .i64 (er : Int) ∧ ∃ wy, Hid (Moved W0 wy gp D { X with op := t } Fp) ∧ wy = wx)
  case first =>
    go_region_held3 (fun w' => w'.cell? ⟨gg, 0, none⟩ = some (.pointer (some ⟨gp, 0, none⟩)) ∧ w'.cell? ⟨w.heap.size, 1, none⟩ = some (.int .i64 a)) (go_keep)
      ((go_at_call 30; refine (HPC.out _ ((Below.refl _ _).drew)).mono ?_; rintro e w3 ⟨rfl, hm3⟩; have HM3 : Hid (Moved W0 w3 gp D { X with op := t } Fp) := Moved.after (Below.refl _ _).drew hm3; have HX2 : Hid (w3.heap[gg]? = W0.heap[gg]?) := gmoved_block HM3.out hgg0 HNF.out.1; have HO2 : Hid (w3.heap[w.heap.size]? = W0.heap[w.heap.size]?) := gmoved_block HM3.out hw0 HNF.out.2; have r1 := (World.cell?_of_block (a := ⟨gg, 0, none⟩) HX2.out).trans x0; have r2 := (World.cell?_of_block (a := ⟨w.heap.size, 1, none⟩) HO2.out).trans b1; clear hm3))
    all_goals
      go_wp2_with fail
      go_meet
      exact ⟨rfl, _, HM3.out, rfl⟩
  case rest =>
    obtain ⟨rfl, wy, HMV, rfl⟩ := hcut
    clear x0 x1 x2 x3 x4 b0 b1 b2
    go_wp2_with fail
    go_ret2
    exact gPlay_of HG.out K0.out.2.2 HMV.out (Below.refl _ _)
set_option maxRecDepth 20000 in
set_option maxHeartbeats 16000000 in
theorem gplay3 (gg gp : Nat) (S : Sta) (X : Aux) (Fp : Nat → Prop) (A B : Int × List Pl) (ao : Option Addr) (ac : Nat) (bo : Option Addr) (bc : Nat) (w : World) (a p : Int) (h : GameAt w gg gp S X Fp A B ao ac bo bc) (hok : Ok S X.op) (_hp1 : pot (S, X.op) + 1 ≤ 549755813888) (_hA : A.2.length ≤ 100) (_hB : B.2.length ≤ 100) :
    Calls Tryz.prog 11 #[.pointer (some ⟨gg, 0, none⟩), .agg #[.int .i64 3, .int .i64 a, .int .i64 p]] w fun e w' => GPlay (cLeave S X.op a).S { X with op := (cLeave S X.op a).op } 0 ((cLeave S X.op a).err : Int) gg gp Fp A B ao ac bo bc w w' e := by
  obtain ⟨W0, hW0⟩ : ∃ W0, W0 = w.alloc (bOpk 3 a p) := ⟨_, rfl⟩
  have hbW : Below w.heap.size w W0 := by rw [hW0]; exact nx_alloc _ _
  have K0 : Hid (W0 = w.alloc (bOpk 3 a p) ∧ W0.heap[w.heap.size]? = some (bOpk 3 a p) ∧ Below w.heap.size w W0) := ⟨hW0, by rw [hW0]; exact heap_alloc_at _ _ rfl, hbW⟩
  have HG := hideIt h
  have HG0 := hideIt (h.below hbW)
  obtain ⟨⟨D, t, id, er⟩, hcr⟩ : ∃ r, (cLeave S X.op a) = r := ⟨_, rfl⟩
  rw [hcr]
  have HPC : Hid (∀ u2, Below W0.heap.size W0 u2 → Calls Tryz.prog 36 #[.pointer (some ⟨gp, 0, none⟩), .int .i64 a] u2 fun e w' => e = .returned (.int .i64 (er : Int)) ∧ Moved u2 w' gp D { X with op := t } Fp) := by
    intro u2 hu
    have := pLeave gp a S X Fp u2 ((h.below hbW).below hu).desk hok
    rw [hcr] at this
    exact this
  have HNF : Hid (¬ Fp gg ∧ ¬ Fp w.heap.size) := ⟨h.dg, fun hf => by have := h.desk.lt _ hf; omega⟩
  clear h hok hW0 hbW hcr
  obtain ⟨x0, x1, x2, x3, x4⟩ := gblk5 HG0.out.box
  obtain ⟨b0, b1, b2⟩ := gblk3 K0.out.2.1
  have hgg0 := HG0.out.lt
  have hw0 : w.heap.size < W0.heap.size := (Array.getElem?_eq_some_iff.1 K0.out.2.1).1
  go_enter Tryz.func11, Tryz.ntmps11
  go_upto_region 8 with fail
  rw [← K0.out.1]
  go_cut [7] (fun v wx => v = .int .i64 (er : Int) ∧ ∃ wy, Hid (Moved W0 wy gp D { X with op := t } Fp) ∧ wy = wx)
  case first =>
    go_region_held3 (fun w' => w'.cell? ⟨gg, 0, none⟩ = some (.pointer (some ⟨gp, 0, none⟩)) ∧ w'.cell? ⟨w.heap.size, 1, none⟩ = some (.int .i64 a)) (go_keep)
      ((go_at_call 36; refine (HPC.out _ ((Below.refl _ _).drew)).mono ?_; rintro e w3 ⟨rfl, hm3⟩; have HM3 : Hid (Moved W0 w3 gp D { X with op := t } Fp) := Moved.after (Below.refl _ _).drew hm3; have HX2 : Hid (w3.heap[gg]? = W0.heap[gg]?) := gmoved_block HM3.out hgg0 HNF.out.1; have HO2 : Hid (w3.heap[w.heap.size]? = W0.heap[w.heap.size]?) := gmoved_block HM3.out hw0 HNF.out.2; have r1 := (World.cell?_of_block (a := ⟨gg, 0, none⟩) HX2.out).trans x0; have r2 := (World.cell?_of_block (a := ⟨w.heap.size, 1, none⟩) HO2.out).trans b1; clear hm3))
    all_goals
      go_wp2_with fail
      go_meet
      exact ⟨rfl, _, HM3.out, rfl⟩
  case rest =>
    obtain ⟨rfl, wy, HMV, rfl⟩ := hcut
    clear x0 x1 x2 x3 x4 b0 b1 b2
    go_wp2_with fail
    go_ret2
    exact gPlay_of HG.out K0.out.2.2 HMV.out (Below.refl _ _)
set_option maxRecDepth 20000 in
set_option maxHeartbeats 16000000 in
theorem gplay4 (gg gp : Nat) (S : Sta) (X : Aux) (Fp : Nat → Prop) (A B : Int × List Pl) (ao : Option Addr) (ac : Nat) (bo : Option Addr) (bc : Nat) (w : World) (a p : Int) (h : GameAt w gg gp S X Fp A B ao ac bo bc) (hok : Ok S X.op) (_hp1 : pot (S, X.op) + 1 ≤ 549755813888) (_hA : A.2.length ≤ 100) (_hB : B.2.length ≤ 100) :
    Calls Tryz.prog 11 #[.pointer (some ⟨gg, 0, none⟩), .agg #[.int .i64 4, .int .i64 a, .int .i64 p]] w fun e w' => GPlay (cCrash S X.op a).S { X with op := (cCrash S X.op a).op } 0 ((cCrash S X.op a).err : Int) gg gp Fp A B ao ac bo bc w w' e := by
  obtain ⟨W0, hW0⟩ : ∃ W0, W0 = w.alloc (bOpk 4 a p) := ⟨_, rfl⟩
  have hbW : Below w.heap.size w W0 := by rw [hW0]; exact nx_alloc _ _
  have K0 : Hid (W0 = w.alloc (bOpk 4 a p) ∧ W0.heap[w.heap.size]? = some (bOpk 4 a p) ∧ Below w.heap.size w W0) := ⟨hW0, by rw [hW0]; exact heap_alloc_at _ _ rfl, hbW⟩
  have HG := hideIt h
  have HG0 := hideIt (h.below hbW)
  obtain ⟨⟨D, t, id, er⟩, hcr⟩ : ∃ r, (cCrash S X.op a) = r := ⟨_, rfl⟩
  rw [hcr]
  have HPC : Hid (∀ u2, Below W0.heap.size W0 u2 → Calls Tryz.prog 20 #[.pointer (some ⟨gp, 0, none⟩), .int .i64 a] u2 fun e w' => e = .returned (.int .i64 (er : Int)) ∧ Moved u2 w' gp D { X with op := t } Fp) := by
    intro u2 hu
    have := pCrash gp a S X Fp u2 ((h.below hbW).below hu).desk hok
    rw [hcr] at this
    exact this
  have HNF : Hid (¬ Fp gg ∧ ¬ Fp w.heap.size) := ⟨h.dg, fun hf => by have := h.desk.lt _ hf; omega⟩
  clear h hok hW0 hbW hcr
  obtain ⟨x0, x1, x2, x3, x4⟩ := gblk5 HG0.out.box
  obtain ⟨b0, b1, b2⟩ := gblk3 K0.out.2.1
  have hgg0 := HG0.out.lt
  have hw0 : w.heap.size < W0.heap.size := (Array.getElem?_eq_some_iff.1 K0.out.2.1).1
  go_enter Tryz.func11, Tryz.ntmps11
  go_upto_region 11 with fail
  rw [← K0.out.1]
  go_cut [8] (fun v wx => v = .int .i64 (er : Int) ∧ ∃ wy, Hid (Moved W0 wy gp D { X with op := t } Fp) ∧ wy = wx)
  case first =>
    go_region_held3 (fun w' => w'.cell? ⟨gg, 0, none⟩ = some (.pointer (some ⟨gp, 0, none⟩)) ∧ w'.cell? ⟨w.heap.size, 1, none⟩ = some (.int .i64 a)) (go_keep)
      ((go_at_call 20; refine (HPC.out _ ((Below.refl _ _).drew)).mono ?_; rintro e w3 ⟨rfl, hm3⟩; have HM3 : Hid (Moved W0 w3 gp D { X with op := t } Fp) := Moved.after (Below.refl _ _).drew hm3; have HX2 : Hid (w3.heap[gg]? = W0.heap[gg]?) := gmoved_block HM3.out hgg0 HNF.out.1; have HO2 : Hid (w3.heap[w.heap.size]? = W0.heap[w.heap.size]?) := gmoved_block HM3.out hw0 HNF.out.2; have r1 := (World.cell?_of_block (a := ⟨gg, 0, none⟩) HX2.out).trans x0; have r2 := (World.cell?_of_block (a := ⟨w.heap.size, 1, none⟩) HO2.out).trans b1; clear hm3))
    all_goals
      go_wp2_with fail
      go_meet
      exact ⟨rfl, _, HM3.out, rfl⟩
  case rest =>
    obtain ⟨rfl, wy, HMV, rfl⟩ := hcut
    clear x0 x1 x2 x3 x4 b0 b1 b2
    go_wp2_with fail
    go_ret2
    exact gPlay_of HG.out K0.out.2.2 HMV.out (Below.refl _ _)
set_option maxRecDepth 20000 in
set_option maxHeartbeats 2000000 in
theorem gplay0 (gg gp : Nat) (S : Sta) (X : Aux) (Fp : Nat → Prop) (A B : Int × List Pl) (ao : Option Addr) (ac : Nat) (bo : Option Addr) (bc : Nat) (w : World) (kd a p : Int) (h : GameAt w gg gp S X Fp A B ao ac bo bc) (hkd : kd ≤ 0 ∨ 7 < kd) :
    Calls Tryz.prog 11 #[.pointer (some ⟨gg, 0, none⟩), .agg #[.int .i64 kd, .int .i64 a, .int .i64 p]] w fun e w' => GPlay S X 0 0 gg gp Fp A B ao ac bo bc w w' e := by
  have K0 : Hid (GPlay S X 0 0 gg gp Fp A B ao ac bo bc w (w.alloc (bOpk kd a p)) (.returned (.tuple #[.int .i64 0, .int .i64 0]))) := gPlay_of h (nx_alloc _ _) (Moved.refl (h.below (nx_alloc _ _)).desk) (Below.refl _ _)
  have e1 : (kd == 1) = false := by rw [beq_eq_false_iff_ne]; omega
  have e2 : (kd == 2) = false := by rw [beq_eq_false_iff_ne]; omega
  have e3 : (kd == 3) = false := by rw [beq_eq_false_iff_ne]; omega
  have e4 : (kd == 4) = false := by rw [beq_eq_false_iff_ne]; omega
  have e5 : (kd == 5) = false := by rw [beq_eq_false_iff_ne]; omega
  have e6 : (kd == 6) = false := by rw [beq_eq_false_iff_ne]; omega
  have e7 : (kd == 7) = false := by rw [beq_eq_false_iff_ne]; omega
  clear h hkd
  go_enter Tryz.func11, Tryz.ntmps11
  go_wp2_with fail
  go_ret2
  exact K0.out
end Lw
end Go.Proofs.YtohbonfngeblkaaGreat
namespace Go.Proofs.YtohbonfngeblkaaGreat
open Go.RowKit
namespace Co
def bytesV : Value → ByteArray
  | .string s => s
  | _ => ⟨#[]⟩
theorem wide_more {l : List UInt8} (h : l.length < 4) : wide true (48 :: l) = wide true l := by
  unfold wide
  simp only [if_true, List.length_cons]
  rw [show 4 - l.length = (4 - (l.length + 1)) + 1 by omega, List.replicate_succ']
  simp
theorem wide_done {b : Bool} {l : List UInt8} (h : ¬ (b = true ∧ l.length < 4)) : wide b l = l := by
  unfold wide
  cases b
  · rfl
  · have : 4 - l.length = 0 := by simp at h; omega
    simp [this]
theorem tl_add (a b : ByteArray) : tl (a ++ b) = tl a ++ tl b := by simp [tl, ByteArray.data_append]
theorem dg_step {n : Nat} (h : 9 < n) (t : List UInt8) : dg (n / 10) ++ (UInt8.ofNat (48 + n % 10) :: t) = dg n ++ t := by
  rw [dg_big h]; simp
theorem tl_b48 (m : Nat) : tl ⟨#[48 + UInt8.ofNat m]⟩ = [UInt8.ofNat (48 + m)] := by
  rw [UInt8.ofNat_add]; rfl
set_option maxRecDepth 20000 in
set_option maxHeartbeats 800000 in
theorem digits_any (n : Nat) (b : Bool) (w : World) (hn : n ≤ 999) :
    Calls Tryz.prog 52 #[.int .i64 n, .bool b] w fun e w' => (∃ s, tl s = dgW b n ∧ e = .returned (.string s)) ∧ Below w.heap.size w w' := by
  have HN := hideIt (dg_len hn)
  go_enter Tryz.func52, Tryz.ntmps52
  go_wp2_with fail
  go_loopw [0, 5] (fun i o wr => ∃ (k : Nat) (t : ByteArray), k ≤ 999 ∧ i = .int .i64 k ∧ o = .string t ∧ Hid (dg k ++ tl t = dg n) ∧ Below w.heap.size w wr) (fun i _ _ => (intOf i).toNat)
  case atStart => exact ⟨n, ⟨#[]⟩, hn, rfl, rfl, List.append_nil _, Below.refl _ _⟩
  case round =>
    obtain ⟨k, t, hk, rfl, rfl, ht, hb⟩ := hrel
    have hts : ¬ 9223372036854775807 < 1 + t.size := by
      have h := ht.out
      have h2 : (dg k ++ tl t).length ≤ 3 := by rw [h]; exact HN.out.2
      rw [List.length_append, tl_len] at h2
      omega
    by_cases h9 : 9 < k
    · have hc := conv_byte wr (48 + (k : Int) % 10) (by omega) (by omega)
      go_wp2_with fail
      go_round
      case rel =>
        refine ⟨k / 10, _, by omega, by go_num, rfl, ?_, hb.alloc hb.size _⟩
        show dg (k / 10) ++ tl (_ ++ t) = dg n
        rw [tl_add, tl_b48, ← ht.out, List.singleton_append, dg_step h9]
      case measure => simp [intOf]; omega
    · have hc := conv_byte wr (48 + (k : Int) % 10) (by omega) (by omega)
      have HT : Hid (tl (⟨#[48 + UInt8.ofNat (k % 10)]⟩ ++ t) = dg n) := by
        show _ = _
        rw [tl_add, tl_b48, ← ht.out, dg_small h9, Nat.mod_eq_of_lt (by omega)]
      have HB : Hid (Below w.heap.size w (wr.alloc (.cells #[.int .u8 (48 + (k : Int) % 10)] 5))) := hb.alloc hb.size _
      go_wp2_with fail
      clear hc
      go_loopw [5] (fun o wx => ∃ (t' : ByteArray), o = .string t' ∧ Hid (wide b (tl t') = dgW b n) ∧ Hid (t'.size ≤ 4) ∧ Below w.heap.size w wx) (fun o _ => 4 - (bytesV o).size)
      case atStart => 
        refine ⟨_, rfl, ?_, ?_, HB.out⟩
        · show wide b (tl _) = _
          rw [HT.out]; rfl
        · show ByteArray.size _ ≤ 4
          rw [← tl_len, HT.out]
          have := HN.out
          omega
      case round =>
        obtain ⟨t', rfl, hw, hl, hbx⟩ := hrel
        have hts : ¬ 9223372036854775807 < 1 + t'.size := by have := hl.out; omega
        cases b with
        | false =>
          go_wp2_with fail
          go_ret
          exact ⟨⟨t', by rw [← hw.out, wide_done (by simp)], rfl⟩, hbx⟩
        | true =>
          by_cases h4 : t'.size < 4
          · go_wp2_with fail
            go_round
            case rel =>
              refine ⟨_, rfl, ?_, ?_, hbx⟩
              · show wide true (tl (_ ++ t')) = _
                rw [tl_add, ← hw.out]
                exact wide_more (l := tl t') (by rw [tl_len]; exact h4)
              · show ByteArray.size (_ ++ t') ≤ 4
                rw [ByteArray.size_append]
                show 1 + t'.size ≤ 4
                omega
            case measure =>
              show 4 - ByteArray.size (_ ++ t') < 4 - t'.size
              rw [ByteArray.size_append]
              show 4 - (1 + t'.size) < 4 - t'.size
              omega
          · go_wp2_with fail
            go_ret
            exact ⟨⟨t', by rw [← hw.out, wide_done (by rw [tl_len]; simp; omega)], rfl⟩, hbx⟩
theorem bits_one (x : Int) : bits .and .i64 x 1 = 0 ∨ bits .and .i64 x 1 = 1 := by
  have h : ((BitVec.ofInt 64 x &&& BitVec.ofInt 64 1).toNat = 0) ∨ ((BitVec.ofInt 64 x &&& BitVec.ofInt 64 1).toNat = 1) := by
    have h1 : (BitVec.ofInt 64 1).toNat = 1 := by decide
    rw [BitVec.toNat_and, h1, Nat.and_one_is_mod]
    omega
  have e : bits .and .i64 x 1 = IntKind.i64.wrap (((BitVec.ofInt 64 x &&& BitVec.ofInt 64 1).toNat : Nat) : Int) := rfl
  rw [e]
  rcases h with h | h
  · left; rw [h]; decide
  · right; rw [h]; decide
def bt (x : Int) : Bool := bits BinOp.and .i64 x 1 == 1
theorem bt_zero (x : Int) : (bits BinOp.and .i64 x 1 == 0) = !(bt x) := by
  unfold bt
  rcases bits_one x with h | h <;> rw [h] <;> rfl
def stOf (x : Int) : Sty := ⟨bt x, bt (x / 2), bt (x / 4), bt (x / 8), bt (x / 16), bt (x / 32), bt (x / 64), bt (x / 128), bt (x / 256), bt (x / 512)⟩
theorem join_small (st : Sty) : ∀ (l : List (List UInt8)), (∀ f ∈ l, f.length ≤ 1000) → (joinL st l).length ≤ 1002 * l.length
  | [], _ => by simp [joinL]
  | f :: r, h => by
    have h1 := h f List.mem_cons_self
    have h2 := join_small st r (fun g hg => h g (List.mem_cons_of_mem _ hg))
    have h3 : (sepL st).length ≤ 2 := by unfold sepL; cases st.b1 <;> simp
    simp only [joinL, List.length_append, List.length_cons]
    omega
theorem str_small {fs : List ByteArray} (hsm : ∀ f ∈ fs, f.size ≤ 1000) (hk : fs.length ≤ 8) (k : Nat) (st : Sty) : (joinF st ((fs.map tl).take k)).length ≤ 9000 := by
  have h1 : ∀ f ∈ (fs.map tl).take k, f.length ≤ 1000 := by
    intro f hf
    obtain ⟨g, hg, rfl⟩ := List.mem_map.1 (List.mem_of_mem_take hf)
    rw [tl_len]; exact hsm g hg
  have h2 : ((fs.map tl).take k).length ≤ 8 := by
    rw [List.length_take, List.length_map]; omega
  generalize (fs.map tl).take k = l at h1 h2
  cases l with
  | nil => simp [joinF]
  | cons f r =>
    have h3 := join_small st r (fun g hg => h1 g (List.mem_cons_of_mem _ hg))
    have h4 := h1 f List.mem_cons_self
    simp only [joinF, List.length_append, List.length_cons] at *
    omega
theorem take_map {fs : List ByteArray} {k : Nat} {f : ByteArray} (h : fs[k]? = some f) : (fs.map tl).take (k + 1) = (fs.map tl).take k ++ [tl f] := by
  obtain ⟨hk, e⟩ := List.getElem?_eq_some_iff.1 h
  rw [List.take_succ_eq_append_getElem (by simpa using hk)]
  simp [e]
theorem pad_add {st : Sty} {t : ByteArray} {l : List UInt8} (h : tl t = padL st ++ l) (x : ByteArray) : tl (t ++ x) = padL st ++ (l ++ tl x) := by
  rw [tl_add, h, List.append_assoc]
set_option maxRecDepth 20000 in
set_option maxHeartbeats 800000 in
theorem line_any (ao : Option Addr) (cap n : Nat) (fs : List ByteArray) (style : Int) (w : World) (hr : RowAt w (.slice ao n cap) n (strs fs)) (hn : fs.length = n) (hn8 : n ≤ 8) (hsm : ∀ f ∈ fs, f.size ≤ 1000) (hst : I64 style) :
    Calls Tryz.prog 51 #[.slice ao n cap, .int .i64 style] w fun e w' => (∃ s, tl s = lineL (stOf style) (fs.map tl) ∧ e = .returned (.string s)) ∧ w' = w := by
  obtain ⟨h1, h2⟩ := hst
  have HR : Hid (RowAt w (.slice ao n cap) n (strs fs) ∧ fs.length = n) := ⟨hr, hn⟩
  have HJ := hideIt (fun k => str_small hsm (by omega) k (stOf style))
  have HB : Hid ((stOf style).b0 = bt style ∧ (stOf style).b1 = bt (style / 2) ∧ (stOf style).b2 = bt (style / 4) ∧ (stOf style).b3 = bt (style / 8)) := ⟨rfl, rfl, rfl, rfl⟩
  have HSM := hideIt hsm
  clear hr hn hsm
  obtain ⟨st, hst⟩ : ∃ st, stOf style = st := ⟨_, rfl⟩
  rw [hst] at HB HJ ⊢
  clear hst
  have start : ∀ b : Bool, st.b0 = b → padL st = if b = true then [32, 32] else [] := fun b hb => by rw [padL, hb]
  have HP := hideIt start
  clear start
  have hpl : (padL st).length ≤ 2 := by unfold padL; cases st.b0 <;> simp
  have HPL := hideIt hpl
  clear hpl
  obtain ⟨b0, hb0⟩ : ∃ b, bt style = b := ⟨_, rfl⟩
  have HP0 : Hid (padL st = if b0 = true then [32, 32] else []) := HP.out b0 (by rw [HB.out.1, hb0])
  clear HP
  cases b0
  all_goals
    have hb0' : (bits BinOp.and IntKind.i64 style 1 == 1) = _ := hb0
    clear hb0
    go_enter Tryz.func51, Tryz.ntmps51
    go_wp2_with fail
    go_loop [5, 6] (fun o i => ∃ (k : Nat) (t : ByteArray), k ≤ n ∧ i = .int .i64 k ∧ o = .string t ∧ Hid (tl t = padL st ++ joinF st ((fs.map tl).take k))) (fun _ i => n - (intOf i).toNat)
    case atStart =>
      refine ⟨0, _, Nat.zero_le _, rfl, rfl, ?_⟩
      show tl _ = _
      rw [HP0.out]; rfl
    case round =>
      obtain ⟨k, t, hk, rfl, rfl, ht⟩ := hrel
      have hts : t.size ≤ 9002 := by
        rw [← tl_len, ht.out, List.length_append]
        have h3 := HJ.out k
        have h4 := HPL.out
        omega
      by_cases hlt : k < n
      · obtain ⟨f, hfk⟩ : ∃ f, fs[k]? = some f := ⟨_, List.getElem?_eq_getElem (by rw [HR.out.2]; exact hlt)⟩
        have hfs : f.size ≤ 1000 := HSM.out f (List.mem_of_getElem? hfk)
        obtain ⟨bl, off, rfl, hbl, hc⟩ := HR.out.1.at (strs_at hfk)
        have hk1 : (k : Int) + 1 ≤ 9 := by omega
        by_cases h0 : k = 0
        · subst h0
          have HN : Hid (tl (t ++ f) = padL st ++ joinF st ((fs.map tl).take 1)) := by
            show _ = _
            rw [pad_add ht.out, take_map hfk]
            simp [joinF, joinL]
          have hc0 : w.cell? ⟨bl, off, none⟩ = some (.string f) := by simpa using hc
          clear hfk hc
          go_wp2_with fail
          go_round
          case rel => exact ⟨1, _, hlt, by go_num, rfl, HN.out⟩
          case measure => simp [intOf]; omega
        · have hk0 : (0 : Int) < (k : Int) := by omega
          have hne : (fs.map tl).take k ≠ [] := by
            intro e
            have := congrArg List.length e
            rw [List.length_take, List.length_map, HR.out.2] at this
            simp at this
            omega
          cases hb1 : bt (style / 2) with
          | true =>
            have HN : Hid (tl (t ++ ⟨#[32]⟩ ++ ⟨#[32]⟩ ++ f) = padL st ++ joinF st ((fs.map tl).take (k + 1))) := by
              show _ = _
              rw [tl_add, tl_add, pad_add ht.out, take_map hfk, joinF_snoc _ _ _ hne, sepL, HB.out.2.1, hb1]
              simp
              rfl
            have hb1' : (bits BinOp.and IntKind.i64 (style / 2) 1 == 1) = true := hb1
            clear hfk hb1 hne
            go_wp2_with fail
            go_round
            case rel => exact ⟨k + 1, _, by omega, by go_num, rfl, HN.out⟩
            case measure => simp [intOf]; omega
          | false =>
            have HN : Hid (tl (t ++ ⟨#[32]⟩ ++ f) = padL st ++ joinF st ((fs.map tl).take (k + 1))) := by
              show _ = _
              rw [tl_add, pad_add ht.out, take_map hfk, joinF_snoc _ _ _ hne, sepL, HB.out.2.1, hb1]
              simp
              rfl
            have hb1' : (bits BinOp.and IntKind.i64 (style / 2) 1 == 1) = false := hb1
            clear hfk hb1 hne
            go_wp2_with fail
            go_round
            case rel => exact ⟨k + 1, _, by omega, by go_num, rfl, HN.out⟩
            case measure => simp [intOf]; omega
      · have HE : Hid (tl t = padL st ++ joinF st (fs.map tl)) := by
          show _ = _
          rw [ht.out, List.take_of_length_le (by rw [List.length_map, HR.out.2]; omega)]
        obtain ⟨b2, hb2⟩ : ∃ b, bt (style / 4) = b := ⟨_, rfl⟩
        obtain ⟨b3, hb3⟩ : ∃ b, bt (style / 8) = b := ⟨_, rfl⟩
        have HS2 : Hid (st.b2 = b2 ∧ st.b3 = b3) := ⟨by rw [HB.out.2.2.1, hb2], by rw [HB.out.2.2.2, hb3]⟩
        cases b2 <;> cases b3
        all_goals
          have hb2' : (bits BinOp.and IntKind.i64 (style / 4) 1 == 1) = _ := hb2
          have hb3' : (bits BinOp.and IntKind.i64 (style / 8) 1 == 1) = _ := hb3
          clear hb2 hb3
          go_wp2_with fail
          go_ret
          refine ⟨⟨_, ?_, rfl⟩, rfl⟩
          obtain ⟨e2, e3⟩ := HS2.out
          simp only [tl_add, HE.out, lineL, bodyL, endL, moreL, e2, e3]
          simp
          try rfl
end Co
end Go.Proofs.YtohbonfngeblkaaGreat
