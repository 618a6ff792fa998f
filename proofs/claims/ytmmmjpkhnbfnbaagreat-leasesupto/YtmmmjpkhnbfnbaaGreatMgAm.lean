import Derived.Test.YtmmmjpkhnbfnbaaGreatMgAl
import Derived.Deep.RegionLaw
import Derived.Deep.AppendLies
namespace Go.Proofs.YtmmmjpkhnbfnbaaGreat
open Go.RowKit
namespace Co

/-- Joined's memory -/
def JS (w wr : World) (b : Int) (po : Option Addr) (n pc : Nat) (p : Pl) (v : Value) (q : Nat) (acc : List Pl) : Prop :=
  wr.heap[w.heap.size]? = some (bTab b (.slice po n pc)) ∧ wr.heap[w.heap.size + 1]? = some (bPl p) ∧ wr.heap[w.heap.size + 2]? = some (bTab 0 (.slice none 0 0)) ∧ wr.heap[w.heap.size + 3]? = some (bTab b v) ∧
  wr.ownsRow (w.heap.size + 4) 70 4 v q (flatP acc) ∧ Below w.heap.size w wr ∧ w.heap.size + 4 ≤ wr.heap.size
theorem JS.app {w wr w6 : World} {b : Int} {po : Option Addr} {n pc q : Nat} {p x : Pl} {v v' : Value} {acc : List Pl} {o : Obj} (h : JS w wr b po n pc p v q acc)
    (hg : (wr.alloc o).grownBy w6 v.ownBlock) (hown : w6.ownsRow (w.heap.size + 4) 70 4 v' (q + 1) (flatP acc ++ [.string x.nm, .int .i64 x.sz, .int .i64 x.wt, .int .i64 x.fr])) :
    w6.heap[w.heap.size + 3]? = some (bTab b v) ∧ JS w (w6.setCell ⟨w.heap.size + 3, 1, none⟩ v') b po n pc p v' (q + 1) (acc ++ [x]) := by
  obtain ⟨h0, h1, h2, h3, ho, hb, hz⟩ := h
  have hlow : ∀ k, k < w.heap.size + 4 → w6.heap[k]? = wr.heap[k]? := by
    intro k hk'
    refine (hg.block k (by simp; omega) ?_).trans (heap_alloc_lt' _ _ (by omega))
    intro e
    have := (ho.lt k e.symm).1
    omega
  have g3 : w6.heap[w.heap.size + 3]? = some (bTab b v) := (hlow _ (by omega)).trans h3
  refine ⟨g3, ?_, ?_, ?_, set_heap _ _ _ _ _ _ g3, ?_, ?_, ?_⟩
  · exact (Below.heap_setCell _ _ _ _ (by show w.heap.size ≠ w.heap.size + 3; omega)).trans ((hlow _ (by omega)).trans h0)
  · exact (Below.heap_setCell _ _ _ _ (by show w.heap.size + 1 ≠ w.heap.size + 3; omega)).trans ((hlow _ (by omega)).trans h1)
  · exact (Below.heap_setCell _ _ _ _ (by show w.heap.size + 2 ≠ w.heap.size + 3; omega)).trans ((hlow _ (by omega)).trans h2)
  · rw [flatP_append]; exact ownsRow_setCell_below hown (by show w.heap.size + 3 < _; omega) _
  · exact (((hb.alloc (Nat.le_trans (by omega) hz) o)).grown hg (by simp; omega) (fun g hgg => by have := (ho.lt g hgg).1; omega)).setCell (by show w.heap.size ≤ w.heap.size + 3; omega) _
  · have := hg.size
    simp at this ⊢
    omega
theorem JS.start (w : World) (b : Int) (po : Option Addr) (n pc : Nat) (p : Pl) : JS w ((((w.alloc (bTab b (.slice po n pc))).alloc (bPl p)).alloc (bTab 0 (.slice none 0 0))).alloc (bTab b (.slice none 0 0))) b po n pc p (.slice none 0 0) 0 [] := by
  refine ⟨?_, ?_, ?_, ?_, World.ownsRow_nil _ _ _ _, nx_trans (nx_trans (nx_trans (nx_alloc _ _) (nx_alloc _ _)) (nx_alloc _ _)) (nx_alloc _ _), by simp⟩
  · exact (heap_alloc_lt' _ _ (by simp; omega)).trans ((heap_alloc_lt' _ _ (by simp; omega)).trans ((heap_alloc_lt' _ _ (by simp)).trans (heap_alloc_at' _ _ rfl)))
  · exact (heap_alloc_lt' _ _ (by simp)).trans ((heap_alloc_lt' _ _ (by simp)).trans (heap_alloc_at' _ _ (by simp)))
  · exact (heap_alloc_lt' _ _ (by simp)).trans (heap_alloc_at' _ _ (by simp))
  · exact heap_alloc_at' _ _ (by simp)
theorem JS.drew {w wr : World} {b : Int} {po : Option Addr} {n pc q : Nat} {p : Pl} {v : Value} {acc : List Pl} (h : JS w wr b po n pc p v q acc) (k : Nat) : JS w (wr.drewN k) b po n pc p v q acc :=
  ⟨h.1, h.2.1, h.2.2.1, h.2.2.2.1, h.2.2.2.2.1, below_drewN h.2.2.2.2.2.1 k, h.2.2.2.2.2.2⟩
theorem blkP {w : World} {g : Nat} {p : Pl} (h : w.heap[g]? = some (bPl p)) : w.cell? ⟨g, 0, none⟩ = some (.string p.nm) ∧ w.cell? ⟨g, 1, none⟩ = some (.int .i64 p.sz) ∧ w.cell? ⟨g, 2, none⟩ = some (.int .i64 p.wt) ∧ w.cell? ⟨g, 3, none⟩ = some (.int .i64 p.fr) := by
  refine ⟨?_, ?_, ?_, ?_⟩ <;> simp [World.cell?, h]

/-- what a cell holds -/
def at31 (w : World) (a : Addr) : Value := (w.cell? a).getD (.bool false)
theorem at31_of {w : World} {a : Addr} {x : Value} (h : w.cell? a = some x) : w.cell? a = some (at31 w a) := by rw [at31, h]; rfl
theorem at31_eq {w : World} {a : Addr} {x : Value} (h : w.cell? a = some x) : at31 w a = x := by rw [at31, h]; rfl
/-- the cells that Joined's round reads -/
abbrev KS (w : World) (v : Value) (bl off k n pc : Nat) (nm' : ByteArray) (sz' wt' fr' : Int) (w' : World) : Prop :=
  w'.cell? ⟨w.heap.size + 1 + 1 + 1, 1, none⟩ = some v ∧ w'.frozen? ⟨w.heap.size + 1 + 1 + 1, 1, none⟩ = false ∧ w'.cell? ⟨w.heap.size, 1, none⟩ = some (.slice (some ⟨bl, off, none⟩) n pc) ∧ w'.cell? ⟨bl, off + k * 4, none⟩ = some (.string nm') ∧ w'.cell? ⟨bl, off + k * 4 + 1, none⟩ = some (.int .i64 sz') ∧ w'.cell? ⟨bl, off + k * 4 + 2, none⟩ = some (.int .i64 wt') ∧ w'.cell? ⟨bl, off + k * 4 + 3, none⟩ = some (.int .i64 fr')
abbrev CW (w : World) (bl off k : Nat) (nm' : ByteArray) (sz' wt' fr' : Int) : Prop := bl < w.heap.size ∧ w.cell? ⟨bl, off + k * 4, none⟩ = some (.string nm') ∧ w.cell? ⟨bl, off + k * 4 + 1, none⟩ = some (.int .i64 sz') ∧ w.cell? ⟨bl, off + k * 4 + 2, none⟩ = some (.int .i64 wt') ∧ w.cell? ⟨bl, off + k * 4 + 3, none⟩ = some (.int .i64 fr')
theorem joined_keep {w wd : World} {b : Int} {n pc q k bl off : Nat} {p : Pl} {v : Value} {acc : List Pl} {nm' : ByteArray} {sz' wt' fr' : Int} (h : JS w wd b (some ⟨bl, off, none⟩) n pc p v q acc)
    (hc : CW w bl off k nm' sz' wt' fr') : ∀ w1 : World, (∀ k, k < wd.heap.size → some k ≠ v.ownBlock → w1.heap[k]? = wd.heap[k]?) → KS w v bl off k n pc nm' sz' wt' fr' w1 := by
  intro w1 hw
  obtain ⟨h0, h1, h2, h3, ho, hb, hz⟩ := h
  have hlow : ∀ j, j < w.heap.size + 4 → w1.heap[j]? = wd.heap[j]? := by
    intro j hj
    refine hw j (by omega) (fun e => ?_)
    have := (ho.lt j e.symm).1
    omega
  have g3 : w1.heap[w.heap.size + 3]? = some (bTab b v) := (hlow _ (by omega)).trans h3
  have g0 : w1.heap[w.heap.size]? = some (bTab b (.slice (some ⟨bl, off, none⟩) n pc)) := (hlow _ (by omega)).trans h0
  have gb : w1.heap[bl]? = w.heap[bl]? := (hlow _ (by have := hc.1; omega)).trans (hb.block _ hc.1)
  refine ⟨(blk2 g3).2.1, (blk2 g3).2.2 1, (blk2 g0).2.1, ?_, ?_, ?_, ?_⟩
  · exact (World.cell?_of_block gb).trans hc.2.1
  · exact (World.cell?_of_block gb).trans hc.2.2.1
  · exact (World.cell?_of_block gb).trans hc.2.2.2.1
  · exact (World.cell?_of_block gb).trans hc.2.2.2.2

set_option maxRecDepth 20000 in
set_option maxHeartbeats 4000000 in
theorem joined_any (b : Int) (p : Pl) (po : Option Addr) (pc n : Nat) (ps : List Pl) (w : World) (hr : RowAt w (.slice po n pc) n (flatP ps)) (hn : ps.length = n) (hn1 : n ≤ 1001) :
    Calls Tryz.prog 62 #[.agg #[.int .i64 b, .slice po n pc], plA p] w fun e w' => ∃ vo vc, e = .returned (.agg #[.int .i64 b, .slice vo (insP p ps).length vc]) ∧ w'.ownsRow w.heap.size 70 4 (.slice vo (insP p ps).length vc) (insP p ps).length (flatP (insP p ps)) ∧ Below w.heap.size w w' := by
  obtain ⟨t0, hi, hz0, hz1, hz2⟩ := info_parts info_pl
  have HST := hideIt (JS.start w b po n pc p)
  obtain ⟨nm, sz, wt, fr⟩ := p
  have HR : Hid (RowAt w (.slice po n pc) n (flatP ps) ∧ ps.length = n) := ⟨hr, hn⟩
  obtain ⟨R, hR⟩ : ∃ R, insP ⟨nm, sz, wt, fr⟩ ps = R := ⟨_, rfl⟩
  rw [hR]
  have HRR := hideIt hR
  clear hr hn hR
  go_enter Tryz.func62, Tryz.ntmps62
  go_wp2_with fail
  go_loopw [6, 7] (fun bv i wr => ∃ (k q : Nat) (acc : List Pl) (inb : Bool) (vo : Option Addr) (vc : Nat), k ≤ n ∧ i = .int .i64 k ∧ bv = .bool inb ∧ q ≤ k + 1 ∧
      Hid (R = acc ++ (if inb = true then ps.drop k else insP ⟨nm, sz, wt, fr⟩ (ps.drop k)) ∧ acc.length = q ∧ (inb = false → q = k)) ∧
      Hid (JS w wr b po n pc ⟨nm, sz, wt, fr⟩ (.slice vo q vc) q acc)) (fun _ i _ => n - (intOf i).toNat)
  case atStart => exact ⟨0, 0, [], false, none, 0, Nat.zero_le _, rfl, rfl, by omega, ⟨by rw [← HRR.out]; simp, rfl, fun _ => rfl⟩, HST.out⟩
  case round =>
    obtain ⟨k, q, acc, inb, vo, vc, hk, rfl, rfl, hq, HS, HJ⟩ := hrel
    obtain ⟨b0, b1, bz⟩ := blk2 HJ.out.1
    obtain ⟨p0, p1, p2, p3⟩ := blkP HJ.out.2.1
    obtain ⟨r0, r1, rz⟩ := blk2 HJ.out.2.2.1
    obtain ⟨o0, o1, oz⟩ := blk2 HJ.out.2.2.2.1
    simp only at p0 p1 p2 p3
    by_cases hlt : k < n
    · obtain ⟨⟨nm', sz', wt', fr'⟩, hp⟩ : ∃ q, ps[k]? = some q := ⟨_, List.getElem?_eq_getElem (by rw [HR.out.2]; exact hlt)⟩
      obtain ⟨bl, off, hao, hbl, cw0, cw1, cw2, cw3⟩ := pool_at HR.out.1 hp
      have hbw := HJ.out.2.2.2.2.2.1
      have c0 : wr.cell? ⟨bl, off + k * 4, none⟩ = some (.string nm') := (hbw.cell (p := ⟨bl, off + k * 4, none⟩) hbl).trans cw0
      have c1 : wr.cell? ⟨bl, off + k * 4 + 1, none⟩ = some (.int .i64 sz') := (hbw.cell (p := ⟨bl, off + k * 4 + 1, none⟩) hbl).trans cw1
      have c2 : wr.cell? ⟨bl, off + k * 4 + 2, none⟩ = some (.int .i64 wt') := (hbw.cell (p := ⟨bl, off + k * 4 + 2, none⟩) hbl).trans cw2
      have c3 : wr.cell? ⟨bl, off + k * 4 + 3, none⟩ = some (.int .i64 fr') := (hbw.cell (p := ⟨bl, off + k * 4 + 3, none⟩) hbl).trans cw3
      have HCW : Hid (bl < w.heap.size ∧ w.cell? ⟨bl, off + k * 4, none⟩ = some (.string nm') ∧ w.cell? ⟨bl, off + k * 4 + 1, none⟩ = some (.int .i64 sz') ∧ w.cell? ⟨bl, off + k * 4 + 2, none⟩ = some (.int .i64 wt') ∧ w.cell? ⟨bl, off + k * 4 + 3, none⟩ = some (.int .i64 fr')) := ⟨hbl, cw0, cw1, cw2, cw3⟩
      clear cw0 cw1 cw2 cw3 hbw
      have HD : Hid (ps.drop k = ⟨nm', sz', wt', fr'⟩ :: ps.drop (k + 1)) := drop_at hp
      have hlti : (k : Int) < (n : Int) := by omega
      have h0i : (0 : Int) ≤ (k : Int) := by omega
      subst hao
      clear hp
      cases inb
      · have hqk1 : q ≤ k := Nat.le_of_eq (HS.out.2.2 rfl)
        have hqk2 : k ≤ q := Nat.le_of_eq (HS.out.2.2 rfl).symm
        cases hl : lt nm nm'
        · have hlb : Op.bytesLess nm.toList nm'.toList = false := hl
          have HX : Hid (R = (acc ++ [Pl.mk nm' sz' wt' fr']) ++ (if false = true then ps.drop (k + 1) else insP (Pl.mk nm sz wt fr) (ps.drop (k + 1)))) := by
            show _ = _
            rw [HS.out.1]; simp only [Bool.false_eq_true, if_false]
            rw [HD.out, insP_no hl]; simp
          clear hl
          go_upto_region 6 with fail
          go_quiet (fail)
          go_upto_region 9 with fail
          obtain ⟨wd, hwd⟩ : ∃ wd, wr.drewN nq = wd := ⟨_, rfl⟩
          have HJd : Hid (JS w wd b (some ⟨bl, off, none⟩) n pc ⟨nm, sz, wt, fr⟩ (.slice vo q vc) q acc) := by rw [← hwd]; exact HJ.out.drew nq
          rw [hwd]
          clear b0 b1 bz p0 p1 p2 p3 r0 r1 rz o0 o1 oz c0 c1 c2 c3 hwd hbl
          have HK : Hid (∀ w1 : World, (∀ k, k < wd.heap.size → some k ≠ (Value.slice vo (q) vc).ownBlock → w1.heap[k]? = wd.heap[k]?) → KS w (.slice vo (q) vc) bl off k n pc nm' sz' wt' fr' w1) := joined_keep HJd.out HCW.out
          obtain ⟨s0, s1, s2, s3, s4, s5, s6⟩ := HK.out wd (fun _ _ _ => rfl)
          have hownd := HJd.out.2.2.2.2.1
          have hBd := HJd.out.2.2.2.2.2.2
          have sA : ∀ o, (wd.alloc o).cell? ⟨w.heap.size + 1 + 1 + 1, 1, none⟩ = some (.slice vo (q) vc) := fun o => (HK.out (wd.alloc o) (fun j hj _ => heap_alloc_lt' _ _ hj)).1
          go_region_law
            ((refine step_append_lies _ (by rfl) (.tmp 38) (.tmp 44) 29 (by rfl) (w.heap.size + 4) 70 t0 _ 4 40 Tryz.underlying29 hi hz0 hz1 hz2 (by rfl) (by decide) _ (q) (flatP (acc)) (by rfl) (hownd.alloc _) ⟨wd.heap.size, 0, none⟩ 1 1 [.string nm', .int .i64 sz', .int .i64 wt', .int .i64 fr'] (by rfl) (by rfl) (cells_new _ [.string nm', .int .i64 sz', .int .i64 wt', .int .i64 fr'] _) (by intro u hu; simp at hu; rcases hu with rfl | rfl | rfl | rfl <;> rfl) (by omega) (by unfold maxLen; omega) (by omega) (by simp; omega) (wd.heap.size + 1) (by simp) ?_; intro g6 cap6 w6 hown6 hgrow6 hat6 hlt6; obtain ⟨q0, q1, _⟩ := HK.out w6 (fun j hj hne => (hgrow6.block j (by simp; omega) hne).trans (heap_alloc_lt' _ _ hj))))
          all_goals
            have HJ6 := hideIt (JS.app (x := Pl.mk nm' sz' wt' fr') (HJd.out.drew 1) hgrow6 hown6).2
            clear hown6 hgrow6 hat6 q0 q1 s0 s1 s2 s3 s4 s5 s6 sA hownd
            go_wp2_with fail
            go_roundw
            case rel => exact ⟨k + 1, (q) + 1, (acc) ++ [Pl.mk nm' sz' wt' fr'], false, some ⟨g6, 0, none⟩, cap6, by omega, by go_num, rfl, by omega, ⟨HX.out, by simp [HS.out.2.1], fun _ => by omega⟩, HJ6.out⟩
            case measure => simp [intOf]; omega
        · have hlb : Op.bytesLess nm.toList nm'.toList = true := hl
          have HX : Hid (R = ((acc ++ [Pl.mk nm sz wt fr]) ++ [Pl.mk nm' sz' wt' fr']) ++ (if true = true then ps.drop (k + 1) else insP (Pl.mk nm sz wt fr) (ps.drop (k + 1)))) := by
            show _ = _
            rw [HS.out.1]; simp only [Bool.false_eq_true, if_false]
            rw [HD.out, insP_yes hl]; simp
          clear hl
          go_upto_region 6 with fail
          go_quiet (fail)
          obtain ⟨wr1, hwr1⟩ : ∃ wr1, wr.drewN nq = wr1 := ⟨_, rfl⟩
          have HJ1 : Hid (JS w wr1 b (some ⟨bl, off, none⟩) n pc ⟨nm, sz, wt, fr⟩ (.slice vo q vc) q acc) := by rw [← hwr1]; exact HJ.out.drew nq
          rw [hwr1]
          clear b0 b1 bz p0 p1 p2 p3 r0 r1 rz o0 o1 oz c0 c1 c2 c3 hwr1 hbl
          obtain ⟨b0, b1, bz⟩ := blk2 HJ1.out.1
          obtain ⟨p0, p1, p2, p3⟩ := blkP HJ1.out.2.1
          obtain ⟨o0, o1, oz⟩ := blk2 (show wr1.heap[w.heap.size + 1 + 1 + 1]? = _ from HJ1.out.2.2.2.1)
          simp only at p0 p1 p2 p3
          go_wp2_with (at_builtin; refine wpList_append_own _ rfl (.tmp 32) (.tmp 34) 29 rfl (w.heap.size + 4) 70 t0 _ 4 40 Tryz.underlying29 hi hz0 hz1 hz2 rfl (by decide) _ q (flatP acc) rfl (HJ1.out.2.2.2.2.1.alloc _) ⟨wr1.heap.size, 0, none⟩ 1 1 [.string nm, .int .i64 sz, .int .i64 wt, .int .i64 fr] rfl rfl (cells_new _ [.string nm, .int .i64 sz, .int .i64 wt, .int .i64 fr] _) (by intro u hu; simp at hu; rcases hu with rfl | rfl | rfl | rfl <;> rfl) (by unfold maxLen; omega) (by omega) (by have := HJ1.out.2.2.2.2.2.2; simp; omega) ?next)
          case next =>
            intro v5 w5 hown5 hgrow5 _
            obtain ⟨vo5, vc5, hv5, _⟩ := own_row hown5
            subst hv5
            obtain ⟨hg3, hJ5⟩ := JS.app (x := Pl.mk nm sz wt fr) HJ1.out hgrow5 hown5
            obtain ⟨f0, f1, fz⟩ := blk2 (show w5.heap[w.heap.size + 1 + 1 + 1]? = _ from hg3)
            have HJ5 := hideIt hJ5
            clear hown5 hgrow5 hg3 hJ5 b0 b1 bz p0 p1 p2 p3 o0 o1 oz
            go_upto_region 9 with fail
            obtain ⟨wd, hwd⟩ : ∃ wd, w5.setCell ⟨w.heap.size + 1 + 1 + 1, 1, none⟩ (.slice vo5 (q + 1) vc5) = wd := ⟨_, rfl⟩
            have HJd : Hid (JS w wd b (some ⟨bl, off, none⟩) n pc ⟨nm, sz, wt, fr⟩ (.slice vo5 (q + 1) vc5) (q + 1) (acc ++ [Pl.mk nm sz wt fr])) := by rw [← hwd]; exact HJ5.out
            rw [hwd]
            clear f0 f1 fz hwd
            have HK : Hid (∀ w1 : World, (∀ k, k < wd.heap.size → some k ≠ (Value.slice vo5 (q + 1) vc5).ownBlock → w1.heap[k]? = wd.heap[k]?) → KS w (.slice vo5 (q + 1) vc5) bl off k n pc nm' sz' wt' fr' w1) := joined_keep HJd.out HCW.out
            obtain ⟨s0, s1, s2, s3, s4, s5, s6⟩ := HK.out wd (fun _ _ _ => rfl)
            have hownd := HJd.out.2.2.2.2.1
            have hBd := HJd.out.2.2.2.2.2.2
            have sA : ∀ o, (wd.alloc o).cell? ⟨w.heap.size + 1 + 1 + 1, 1, none⟩ = some (.slice vo5 (q + 1) vc5) := fun o => (HK.out (wd.alloc o) (fun j hj _ => heap_alloc_lt' _ _ hj)).1
            go_region_law
              ((refine step_append_lies _ (by rfl) (.tmp 38) (.tmp 44) 29 (by rfl) (w.heap.size + 4) 70 t0 _ 4 40 Tryz.underlying29 hi hz0 hz1 hz2 (by rfl) (by decide) _ (q + 1) (flatP (acc ++ [Pl.mk nm sz wt fr])) (by rfl) (hownd.alloc _) ⟨wd.heap.size, 0, none⟩ 1 1 [.string nm', .int .i64 sz', .int .i64 wt', .int .i64 fr'] (by rfl) (by rfl) (cells_new _ [.string nm', .int .i64 sz', .int .i64 wt', .int .i64 fr'] _) (by intro u hu; simp at hu; rcases hu with rfl | rfl | rfl | rfl <;> rfl) (by omega) (by unfold maxLen; omega) (by omega) (by simp; omega) (wd.heap.size + 1) (by simp) ?_; intro g6 cap6 w6 hown6 hgrow6 hat6 hlt6; obtain ⟨q0, q1, _⟩ := HK.out w6 (fun j hj hne => (hgrow6.block j (by simp; omega) hne).trans (heap_alloc_lt' _ _ hj))))
            all_goals
              have HJ6 := hideIt (JS.app (x := Pl.mk nm' sz' wt' fr') (HJd.out.drew 1) hgrow6 hown6).2
              clear hown6 hgrow6 hat6 q0 q1 s0 s1 s2 s3 s4 s5 s6 sA hownd
              go_wp2_with fail
              go_roundw
              case rel => exact ⟨k + 1, (q + 1) + 1, (acc ++ [Pl.mk nm sz wt fr]) ++ [Pl.mk nm' sz' wt' fr'], true, some ⟨g6, 0, none⟩, cap6, by omega, by go_num, rfl, by omega, ⟨HX.out, by simp [HS.out.2.1], fun h => by cases h⟩, HJ6.out⟩
              case measure => simp [intOf]; omega
      · have HX : Hid (R = (acc ++ [Pl.mk nm' sz' wt' fr']) ++ (if true = true then ps.drop (k + 1) else insP (Pl.mk nm sz wt fr) (ps.drop (k + 1)))) := by
          show _ = _
          rw [HS.out.1, if_pos rfl, if_pos rfl, HD.out]; simp
        go_upto_region 6 with fail
        go_quiet (fail)
        go_upto_region 9 with fail
        obtain ⟨wd, hwd⟩ : ∃ wd, wr.drewN nq = wd := ⟨_, rfl⟩
        have HJd : Hid (JS w wd b (some ⟨bl, off, none⟩) n pc ⟨nm, sz, wt, fr⟩ (.slice vo q vc) q acc) := by rw [← hwd]; exact HJ.out.drew nq
        rw [hwd]
        clear b0 b1 bz p0 p1 p2 p3 r0 r1 rz o0 o1 oz c0 c1 c2 c3 hwd hbl
        have HK : Hid (∀ w1 : World, (∀ k, k < wd.heap.size → some k ≠ (Value.slice vo (q) vc).ownBlock → w1.heap[k]? = wd.heap[k]?) → KS w (.slice vo (q) vc) bl off k n pc nm' sz' wt' fr' w1) := joined_keep HJd.out HCW.out
        obtain ⟨s0, s1, s2, s3, s4, s5, s6⟩ := HK.out wd (fun _ _ _ => rfl)
        have hownd := HJd.out.2.2.2.2.1
        have hBd := HJd.out.2.2.2.2.2.2
        have sA : ∀ o, (wd.alloc o).cell? ⟨w.heap.size + 1 + 1 + 1, 1, none⟩ = some (.slice vo (q) vc) := fun o => (HK.out (wd.alloc o) (fun j hj _ => heap_alloc_lt' _ _ hj)).1
        go_region_law
          ((refine step_append_lies _ (by rfl) (.tmp 38) (.tmp 44) 29 (by rfl) (w.heap.size + 4) 70 t0 _ 4 40 Tryz.underlying29 hi hz0 hz1 hz2 (by rfl) (by decide) _ (q) (flatP (acc)) (by rfl) (hownd.alloc _) ⟨wd.heap.size, 0, none⟩ 1 1 [.string nm', .int .i64 sz', .int .i64 wt', .int .i64 fr'] (by rfl) (by rfl) (cells_new _ [.string nm', .int .i64 sz', .int .i64 wt', .int .i64 fr'] _) (by intro u hu; simp at hu; rcases hu with rfl | rfl | rfl | rfl <;> rfl) (by omega) (by unfold maxLen; omega) (by omega) (by simp; omega) (wd.heap.size + 1) (by simp) ?_; intro g6 cap6 w6 hown6 hgrow6 hat6 hlt6; obtain ⟨q0, q1, _⟩ := HK.out w6 (fun j hj hne => (hgrow6.block j (by simp; omega) hne).trans (heap_alloc_lt' _ _ hj))))
        all_goals
          have HJ6 := hideIt (JS.app (x := Pl.mk nm' sz' wt' fr') (HJd.out.drew 1) hgrow6 hown6).2
          clear hown6 hgrow6 hat6 q0 q1 s0 s1 s2 s3 s4 s5 s6 sA hownd
          go_wp2_with fail
          go_roundw
          case rel => exact ⟨k + 1, (q) + 1, (acc) ++ [Pl.mk nm' sz' wt' fr'], true, some ⟨g6, 0, none⟩, cap6, by omega, by go_num, rfl, by omega, ⟨HX.out, by simp [HS.out.2.1], fun h => by cases h⟩, HJ6.out⟩
          case measure => simp [intOf]; omega
    · have hkn : ps.drop k = [] := List.drop_of_length_le (by rw [HR.out.2]; omega)
      cases inb
      · have HX : Hid (R = acc ++ [Pl.mk nm sz wt fr] ∧ (acc ++ [Pl.mk nm sz wt fr]).length = q + 1) := ⟨by rw [HS.out.1, hkn]; rfl, by simp [HS.out.2.1]⟩
        have o1' : wr.cell? ⟨w.heap.size + 1 + 1 + 1, 1, none⟩ = some (.slice vo q vc) := o1
        clear hkn bz r0 r1 rz o0 oz
        go_wp2_with (at_builtin; refine wpList_append_own _ rfl (.tmp 50) (.tmp 52) 29 rfl (w.heap.size + 4) 70 t0 _ 4 40 Tryz.underlying29 hi hz0 hz1 hz2 rfl (by decide) _ q (flatP acc) rfl (HJ.out.2.2.2.2.1.alloc _) ⟨wr.heap.size, 0, none⟩ 1 1 [.string nm, .int .i64 sz, .int .i64 wt, .int .i64 fr] rfl rfl (cells_new _ [.string nm, .int .i64 sz, .int .i64 wt, .int .i64 fr] _) (by intro u hu; simp at hu; rcases hu with rfl | rfl | rfl | rfl <;> rfl) (by unfold maxLen; omega) (by omega) (by have := HJ.out.2.2.2.2.2.2; simp; omega) ?next)
        case next =>
          intro v5 w5 hown5 hgrow5 _
          obtain ⟨vo5, vc5, hv5, _⟩ := own_row hown5
          subst hv5
          obtain ⟨hg3, hJ5⟩ := JS.app (x := Pl.mk nm sz wt fr) HJ.out hgrow5 hown5
          obtain ⟨f0, f1, fz⟩ := blk2 (show w5.heap[w.heap.size + 1 + 1 + 1]? = _ from hg3)
          have HF := hideIt hJ5
          obtain ⟨x0, x1, xz⟩ := blk2 (show (w5.setCell ⟨w.heap.size + 1 + 1 + 1, 1, none⟩ (.slice vo5 (q + 1) vc5)).heap[w.heap.size + 1 + 1]? = _ from hJ5.2.2.1)
          clear hown5 hgrow5 hg3 hJ5
          go_wp2_with fail
          refine bodyPost_ret (v := .agg #[.int .i64 b, .slice vo5 (q + 1) vc5]) (by simp [results, Tryz.results62, go_sem, x0, x1]) rfl ⟨vo5, vc5, ?_, ?_, ?_⟩
          · rw [HX.out.1, HX.out.2]
          · rw [HX.out.1, HX.out.2]
            exact own_mono (ownsRow_setCell_below (ownsRow_setCell_below HF.out.2.2.2.2.1 (by show w.heap.size + 2 < _; omega) _) (by show w.heap.size + 2 < _; omega) _) (by omega)
          · exact (HF.out.2.2.2.2.2.1.setCell (by show w.heap.size ≤ w.heap.size + 2; omega) _).setCell (by show w.heap.size ≤ w.heap.size + 2; omega) _
      · have HX : Hid (R = acc ∧ acc.length = q) := ⟨by rw [HS.out.1, hkn]; simp, HS.out.2.1⟩
        have HF := HJ
        have x0 : wr.cell? ⟨w.heap.size + 1 + 1, 0, none⟩ = some (.int .i64 0) := r0
        have x1 : wr.cell? ⟨w.heap.size + 1 + 1, 1, none⟩ = some (.slice none 0 0) := r1
        have xz : ∀ a, wr.frozen? ⟨w.heap.size + 1 + 1, a, none⟩ = false := rz
        have o0' : wr.cell? ⟨w.heap.size + 1 + 1 + 1, 0, none⟩ = some (.int .i64 b) := o0
        have o1' : wr.cell? ⟨w.heap.size + 1 + 1 + 1, 1, none⟩ = some (.slice vo q vc) := o1
        clear hkn
        go_wp2_with fail
        refine bodyPost_ret (v := .agg #[.int .i64 b, .slice vo (q) vc]) (by simp [results, Tryz.results62, go_sem, x0, x1]) rfl ⟨vo, vc, ?_, ?_, ?_⟩
        · rw [HX.out.1, HX.out.2]
        · rw [HX.out.1, HX.out.2]
          exact own_mono (ownsRow_setCell_below (ownsRow_setCell_below HF.out.2.2.2.2.1 (by show w.heap.size + 2 < _; omega) _) (by show w.heap.size + 2 < _; omega) _) (by omega)
        · exact (HF.out.2.2.2.2.2.1.setCell (by show w.heap.size ≤ w.heap.size + 2; omega) _).setCell (by show w.heap.size ≤ w.heap.size + 2; omega) _
end Co
end Go.Proofs.YtmmmjpkhnbfnbaaGreat
