import Derived.Test.YtohbonfngeblkaaGreatMgAb
import Derived.Maps.AppendAt
import Derived.Deep.RegionWith
import Derived.Deep.RegionLaw
namespace Go.Proofs.YtohbonfngeblkaaGreat
open Go.RowKit
namespace Lw
open Co
theorem own_ne {g n c j gp : Nat} (hj : (Value.slice (some ⟨g, 0, none⟩) n c).ownBlock = some j) (h : gp ≠ g) : j ≠ gp := by
  have e : g = j := by simpa [Value.ownBlock] using hj
  omega
theorem blk4d {w : World} {g : Nat} {c0 c1 c2 c3 : Value} {t : TypeId} (h : w.heap[g]? = some (.cells #[c0, c1, c2, c3] t (0, 0))) :
    w.cell? ⟨g, 0, none⟩ = some c0 ∧ w.cell? ⟨g, 1, none⟩ = some c1 ∧ w.cell? ⟨g, 2, none⟩ = some c2 ∧ w.cell? ⟨g, 3, none⟩ = some c3 ∧ ∀ a, w.frozen? ⟨g, a, none⟩ = false := by
  refine ⟨?_, ?_, ?_, ?_, fun a => ?_⟩ <;> simp [World.cell?, World.frozen?, h]
set_option maxRecDepth 20000 in
set_option maxHeartbeats 2000000 in
theorem open_flat (B gp : Nat) (b : Int) (po : Option Addr) (n1 pc : Nat) (so : Option Addr) (n2 sc : Nat) (wo : Option Addr) (n3 wc : Nat) (op : Int) (q : WyV) (nm : ByteArray) (s1 s2 s3 : Int) (c : Int) (ss : List Srv) (w : World) (hgp : w.heap[gp]? = some (bDesk b po n1 pc so n2 sc wo n3 wc op q)) (hr : w.ownsRow B 55 4 (.slice so n2 sc) n2 (flatV ss)) (hB : B ≤ w.heap.size) (hq : n2 + 1 ≤ 1099511627776) (ho : 0 ≤ op ∧ op < 9223372036854775807) :
    Calls Tryz.prog 127 #[.pointer (some ⟨gp, 0, none⟩), .agg #[.string nm, .int .i64 s1, .int .i64 s2, .int .i64 s3], .int .i64 c] w fun e w' => (∃ x, e = .returned x) ∧ ∃ g vc, w'.heap[gp]? = some (bDesk b po n1 pc (some ⟨g, 0, none⟩) (n2 + 1) vc wo n3 wc (op + 1) q) ∧ w'.ownsRow B 55 4 (.slice (some ⟨g, 0, none⟩) (n2 + 1) vc) (n2 + 1) (flatV (ss ++ [⟨op + 1, nm, s3, c⟩])) ∧ Chg (fun y => y = gp ∨ (Value.slice so n2 sc).ownBlock = some y) w w' ∧ ((Value.slice so n2 sc).ownBlock = some g ∨ w.heap.size ≤ g) := by
  have hgplt : gp < w.heap.size := (Array.getElem?_eq_some_iff.1 hgp).1
  have hne : ¬ gp = w.heap.size := by omega
  have hA : ∀ o, (w.alloc o).heap[gp]? = some (bDesk b po n1 pc so n2 sc wo n3 wc op q) := fun o => ((nx_alloc w o).block gp hgplt).trans hgp
  have a3 : ∀ o, (w.alloc o).cell? ⟨gp, 4, none⟩ = some (.int .i64 op) := fun o => (blk5d (hA o)).2.2.2.2.1
  have az : ∀ o, (w.alloc o).frozen? ⟨gp, 4, none⟩ = false := fun o => (blk5d (hA o)).2.2.2.2.2 4
  go_enter Tryz.func127, Tryz.ntmps127
  go_upto_region 2 with fail
  have HW : Hid (∀ W0, W0 = ((w.setCell ⟨gp, 4, none⟩ (.int .i64 (op + 1))).alloc (Obj.cells #[.string nm, .int .i64 s1, .int .i64 s2, .int .i64 s3] 75)) → W0.heap.size = w.heap.size + 1 ∧ W0.heap[gp]? = some (bDesk b po n1 pc so n2 sc wo n3 wc (op + 1) q) ∧ W0.heap[w.heap.size]? = some (Obj.cells #[.string nm, .int .i64 s1, .int .i64 s2, .int .i64 s3] 75) ∧ W0.ownsRow B 55 4 (.slice so n2 sc) n2 (flatV ss) ∧ Chg (fun y => y = gp) w W0) := by
    rintro W0 rfl
    have hk : ∀ y, (Value.slice so n2 sc).ownBlock = some y → y ≠ gp := by
      intro y hy e
      obtain ⟨cc, fz, hh⟩ := Go.Lib.ownsRow_kind hr y hy
      rw [e, hgp] at hh
      simp [bDesk] at hh
    refine ⟨by simp, ?_, ?_, ?_, ?_⟩
    · exact ((nx_alloc _ _).block gp (by simp; omega)).trans (set_heap _ _ _ _ _ _ hgp)
    · exact heap_alloc_at _ _ (by simp)
    · exact (ownG_heap hr (fun j hj => Below.heap_setCell _ _ _ _ (hk j hj))).alloc _
    · exact (Chg.set (F := fun y => y = gp) w gp 4 _ rfl).trans (Chg.of_below (F := fun y => y = gp) (nx_alloc _ _)) (fun y hy => .inl hy)
  generalize hW : World.alloc (w.setCell ⟨gp, 4, none⟩ (.int .i64 (op + 1))) _ = W0
  have H0 := hideIt (HW.out W0 hW.symm)
  clear HW hW hA a3 az hr hgp
  obtain ⟨hs0, hd0, hb0, ho0, hc0⟩ := H0.out
  have dA : ∀ o, (W0.alloc o).cell? ⟨gp, 4, none⟩ = some (.int .i64 (op + 1)) := fun o => (blk5d (((nx_alloc W0 o).block gp (by omega)).trans hd0)).2.2.2.2.1
  have bA : ∀ o, (W0.alloc o).heap[w.heap.size]? = some (Obj.cells #[.string nm, .int .i64 s1, .int .i64 s2, .int .i64 s3] 75) := fun o => ((nx_alloc W0 o).block w.heap.size (by omega)).trans hb0
  have b0 := (blk4d hb0).1
  have b3 := (blk4d hb0).2.2.2.1
  have c0 := fun o => (blk4d (bA o)).1
  have c3 := fun o => (blk4d (bA o)).2.2.2.1
  have d0 := (blk5d hd0).2.2.2.2.1
  clear hs0 hd0 hb0 ho0 hc0 bA
  go_region
  have HV : Hid (∀ W1, W1 = (W0.alloc (Obj.cells #[.int .i64 (op + 1), .string nm, .int .i64 s3, .int .i64 c] 55)).drew → W1.heap.size = W0.heap.size + 1 ∧ W1.heap[gp]? = some (bDesk b po n1 pc so n2 sc wo n3 wc (op + 1) q) ∧ W1.heap[W0.heap.size]? = some (Obj.cells #[.int .i64 (op + 1), .string nm, .int .i64 s3, .int .i64 c] 55) ∧ W1.ownsRow B 55 4 (.slice so n2 sc) n2 (flatV ss) ∧ Chg (fun y => y = gp) w W1) := by
    rintro W1 rfl
    obtain ⟨hs0, hd0, hb0, ho0, hc0⟩ := H0.out
    have hX : Chg (fun y => y = gp) w (W0.alloc (Obj.cells #[.int .i64 (op + 1), .string nm, .int .i64 s3, .int .i64 c] 55)) := hc0.trans (Chg.of_below (F := fun y => y = gp) (nx_alloc _ _)) (fun y hy => .inl hy)
    refine ⟨by show (W0.alloc _).heap.size = _; simp, ?_, ?_, (ho0.alloc _).drew, ⟨hX.os, hX.tape, hX.output, hX.size, hX.block⟩⟩
    · exact ((nx_alloc W0 _).block gp (by omega)).trans hd0
    · exact heap_alloc_at W0 _ rfl
  generalize hV : World.drew (W0.alloc _) = W1
  have H1 := hideIt (HV.out W1 hV.symm)
  clear HV hV dA b0 b3 c0 c3 d0
  obtain ⟨hs1, hd1, hb1, ho1, hc1⟩ := H1.out
  have hs0 := H0.out.1
  obtain ⟨e0, e1, e2, e3, e4⟩ := blk4d hb1
  have f2 := (blk5d hd1).2.2.1
  have fA : ∀ o, (W1.alloc o).cell? ⟨gp, 2, none⟩ = some (.slice so n2 sc) := fun o => (blk5d (((nx_alloc W1 o).block gp (by omega)).trans hd1)).2.2.1
  have HK : Hid (∀ y, (Value.slice so n2 sc).ownBlock = some y → gp ≠ y) := by
    intro y hy e
    obtain ⟨cc, fz, hh⟩ := Go.Lib.ownsRow_kind H1.out.2.2.2.1 y hy
    rw [← e, H1.out.2.1] at hh
    simp [bDesk] at hh
  have hle : w.heap.size + 2 ≤ W1.heap.size := by omega
  clear hd1 hb1 hc1 hs0 hs1
  obtain ⟨t0, hi, hz0, hz1, hz2⟩ := info_parts info_V
  go_upto_region 3 with fail
  go_region_law
    ((refine step_append_lies _ (by rfl) (.tmp 28) (.tmp 30) 29 (by rfl) B 55 t0 _ 4 40 Tryz.underlying29 hi hz0 hz1 hz2 (by rfl) (by decide) _ n2 (flatV ss) (by rfl) (ho1.alloc _) ⟨W1.heap.size, 0, none⟩ 1 1 [.int .i64 (op + 1), .string nm, .int .i64 s3, .int .i64 c] (by rfl) (by rfl) (cells_new _ [.int .i64 (op + 1), .string nm, .int .i64 s3, .int .i64 c] _) (by intro u hu; simp at hu; rcases hu with rfl | rfl | rfl | rfl <;> rfl) (by omega) (by unfold maxLen; omega) (by omega) (by simp; omega) (W1.heap.size + 1) (by simp) ?_; intro g6 cap6 w6 hown6 hgrow6 hat6 hlt6; have q6 := (hgrow6.block gp (by simp; omega) (fun e => HK.out gp e.symm rfl)).trans (((nx_alloc W1 _).block gp (by omega)).trans H1.out.2.1); obtain ⟨q0, q1, q2, q3, q4, qz⟩ := blk5d q6))
  all_goals
    have HX : Hid (w6.ownsRow B 55 4 (.slice (some ⟨g6, 0, none⟩) (n2 + 1) cap6) (n2 + 1) (flatV (ss ++ [⟨op + 1, nm, s3, c⟩])) ∧ Chg (fun y => y = gp ∨ (Value.slice so n2 sc).ownBlock = some y) w w6 ∧ ((Value.slice so n2 sc).ownBlock = some g6 ∨ w.heap.size ≤ g6) ∧ gp ≠ g6 ∧ w6.heap[gp]? = some (bDesk b po n1 pc so n2 sc wo n3 wc (op + 1) q)) := by
      refine ⟨?_, ?_, ?_, ?_, q6⟩
      · unfold flatV
        rw [List.flatMap_append]
        exact hown6
      · have h1 := H1.out.2.2.2.2.trans (Chg.of_below (F := fun y => y = gp) (nx_alloc W1 (Obj.cells #[.int .i64 (op + 1), .string nm, .int .i64 s3, .int .i64 c] 55))) (fun y hy => .inl hy)
        have h2 := Chg.grown (F := fun y => (Value.slice so n2 sc).ownBlock = some y) hgrow6 (fun y hy => hy)
        exact (h1.mono (fun y hy => .inl hy)).trans (G := fun y => (Value.slice so n2 sc).ownBlock = some y) ⟨h2.os, h2.tape, h2.output, h2.size, h2.block⟩ (fun y hy => .inl (.inr hy))
      · rcases hat6 with h | h
        · exact .inl h
        · exact .inr (by omega)
      · rcases hat6 with h | h
        · exact HK.out g6 h
        · omega
    clear hown6 hgrow6 hat6 q0 q1 q2 q3 q4 qz q6
    refine bodyPost_end (v := .tuple #[]) (by simp [results, Tryz.results127, go_sem]) rfl ?_
    refine ⟨⟨_, rfl⟩, g6, cap6, ?_, ?_, ?_, HX.out.2.2.1⟩
    · exact set_heap _ _ _ _ _ _ HX.out.2.2.2.2
    · exact ownG_heap HX.out.1 (fun j hj => Below.heap_setCell _ _ _ _ (by show j ≠ gp; exact own_ne hj HX.out.2.2.2.1))
    · exact HX.out.2.1.trans (Chg.set (F := fun y => y = gp) w6 gp 2 _ rfl) (fun y hy => .inl (.inl hy))
end Lw
end Go.Proofs.YtohbonfngeblkaaGreat
