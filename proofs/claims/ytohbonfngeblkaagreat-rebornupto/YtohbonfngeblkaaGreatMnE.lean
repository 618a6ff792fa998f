import Derived.Test.YtohbonfngeblkaaGreatMnD
namespace Go.Proofs.YtohbonfngeblkaaGreat
open Go.RowKit
namespace Co
def poolC (ls : List (Ln × Value)) (l : Ln) : Pl :=
  ⟨l.name, valOf 0 1 l.sets (chn ls 7 l.frm), valOf 1 0 l.sets (chn ls 7 l.frm), valOf 2 0 l.sets (chn ls 7 l.frm)⟩
theorem valueOf_0 (x0 x1 : Int) (s2 s3 : ByteArray) (so : Option Addr) (sc m : Nat) (ss : List (Nat × Nat)) (co : Option Addr) (cc q : Nat) (ch : List (Ln × Value)) (w : World)
    (hr : RowAt w (.slice so m sc) m (flatS ss)) (hm : ss.length = m) (hm1 : m ≤ 1001) (hl : LinesAt w (.slice co q cc) ch) (hq : ch.length = q) (hq1 : q ≤ 1001) (hsl : ∀ p ∈ ch, p.1.sets.length ≤ 1001) :
    Calls Tryz.prog 95 #[.string ⟨#[115, 105, 122, 101]⟩, lnA' x0 x1 s2 s3 so m sc, .slice co q cc, .int .i64 1] w fun e w' => e = .returned (.int .i64 (valOf 0 1 ss ch)) ∧ Below w.heap.size w w' :=
  valueOf_any 0 1 x0 x1 s2 s3 so sc m ss co cc q ch w hr hm hm1 hl hq hq1 hsl
theorem valueOf_1 (x0 x1 : Int) (s2 s3 : ByteArray) (so : Option Addr) (sc m : Nat) (ss : List (Nat × Nat)) (co : Option Addr) (cc q : Nat) (ch : List (Ln × Value)) (w : World)
    (hr : RowAt w (.slice so m sc) m (flatS ss)) (hm : ss.length = m) (hm1 : m ≤ 1001) (hl : LinesAt w (.slice co q cc) ch) (hq : ch.length = q) (hq1 : q ≤ 1001) (hsl : ∀ p ∈ ch, p.1.sets.length ≤ 1001) :
    Calls Tryz.prog 95 #[.string ⟨#[119, 97, 105, 116]⟩, lnA' x0 x1 s2 s3 so m sc, .slice co q cc, .int .i64 0] w fun e w' => e = .returned (.int .i64 (valOf 1 0 ss ch)) ∧ Below w.heap.size w w' :=
  valueOf_any 1 0 x0 x1 s2 s3 so sc m ss co cc q ch w hr hm hm1 hl hq hq1 hsl
theorem valueOf_2 (x0 x1 : Int) (s2 s3 : ByteArray) (so : Option Addr) (sc m : Nat) (ss : List (Nat × Nat)) (co : Option Addr) (cc q : Nat) (ch : List (Ln × Value)) (w : World)
    (hr : RowAt w (.slice so m sc) m (flatS ss)) (hm : ss.length = m) (hm1 : m ≤ 1001) (hl : LinesAt w (.slice co q cc) ch) (hq : ch.length = q) (hq1 : q ≤ 1001) (hsl : ∀ p ∈ ch, p.1.sets.length ≤ 1001) :
    Calls Tryz.prog 95 #[.string ⟨#[102, 97, 114]⟩, lnA' x0 x1 s2 s3 so m sc, .slice co q cc, .int .i64 0] w fun e w' => e = .returned (.int .i64 (valOf 2 0 ss ch)) ∧ Below w.heap.size w w' :=
  valueOf_any 2 0 x0 x1 s2 s3 so sc m ss co cc q ch w hr hm hm1 hl hq hq1 hsl
theorem valueOf_3 (x0 x1 : Int) (s2 s3 : ByteArray) (so : Option Addr) (sc m : Nat) (ss : List (Nat × Nat)) (w : World)
    (hr : RowAt w (.slice so m sc) m (flatS ss)) (hm : ss.length = m) (hm1 : m ≤ 1001) :
    Calls Tryz.prog 95 #[.string ⟨#[98, 117, 100, 103, 101, 116]⟩, lnA' x0 x1 s2 s3 so m sc, .slice none 0 0, .int .i64 0] w fun e w' => e = .returned (.int .i64 (valOf 3 0 ss [])) ∧ Below w.heap.size w w' :=
  valueOf_any 3 0 x0 x1 s2 s3 so sc m ss none 0 0 [] w hr hm hm1 ⟨row_nil _ _ _, by simp⟩ rfl (by omega) (by simp)
theorem blk4 {W w3 : World} {B : Nat} (hb : Below B W w3) {g : Nat} (hg : g < B) {c0 c1 c2 c3 : Value} {t : TypeId} (h : W.heap[g]? = some (.cells #[c0, c1, c2, c3] t (0, 0))) :
    w3.cell? ⟨g, 0, none⟩ = some c0 ∧ w3.cell? ⟨g, 1, none⟩ = some c1 ∧ w3.cell? ⟨g, 2, none⟩ = some c2 ∧ w3.cell? ⟨g, 3, none⟩ = some c3 ∧ ∀ a, w3.frozen? ⟨g, a, none⟩ = false := by
  have h' : w3.heap[g]? = some (.cells #[c0, c1, c2, c3] t (0, 0)) := (hb.block g hg).trans h
  refine ⟨?_, ?_, ?_, ?_, fun a => ?_⟩ <;> simp [World.cell?, World.frozen?, h']
theorem blk5 {W w3 : World} {B : Nat} (hb : Below B W w3) {g : Nat} (hg : g < B) {c0 c1 c2 c3 c4 : Value} {t : TypeId} (h : W.heap[g]? = some (.cells #[c0, c1, c2, c3, c4] t (0, 0))) :
    w3.cell? ⟨g, 0, none⟩ = some c0 ∧ w3.cell? ⟨g, 1, none⟩ = some c1 ∧ w3.cell? ⟨g, 2, none⟩ = some c2 ∧ w3.cell? ⟨g, 3, none⟩ = some c3 ∧ w3.cell? ⟨g, 4, none⟩ = some c4 := by
  have h' : w3.heap[g]? = some (.cells #[c0, c1, c2, c3, c4] t (0, 0)) := (hb.block g hg).trans h
  refine ⟨?_, ?_, ?_, ?_, ?_⟩ <;> simp [World.cell?, h']
theorem set_heap (w : World) (g a : Nat) (v : Value) (cur : Array Value) (t : TypeId) (h : w.heap[g]? = some (.cells cur t (0, 0))) : (w.setCell ⟨g, a, none⟩ v).heap[g]? = some (.cells (cur.setIfInBounds a v) t (0, 0)) := by
  rw [setCell_eq_setRow w g a cur t (0, 0) v h]
  exact setRow_heap w g _ _ t _ h
set_option maxRecDepth 20000 in
set_option maxHeartbeats 4000000 in
theorem poolOf_any (l : Ln) (x0 x1 : Int) (so : Option Addr) (sc m : Nat) (ao : Option Addr) (cap n : Nat) (ls : List (Ln × Value)) (w : World) (hl : LinesAt w (.slice ao n cap) ls) (hn : ls.length = n) (hn1 : n ≤ 1001)
    (hr : RowAt w (.slice so m sc) m (flatS l.sets)) (hm : l.sets.length = m) (hm1 : m ≤ 1001) (hsl : ∀ p ∈ ls, p.1.sets.length ≤ 1001) :
    Calls Tryz.prog 96 #[lnA' x0 x1 l.name l.frm so m sc, .slice ao n cap] w fun e w' => e = .returned (plA (poolC ls l)) ∧ Below w.heap.size w w' := by
  obtain ⟨kind, name, frm, ss, pl⟩ := l
  simp only at hr hm ⊢
  obtain ⟨W1, hW1⟩ : ∃ W1, W1 = (w.alloc (bLn x0 x1 name frm so m sc)).alloc (bPl ⟨⟨#[]⟩, 0, 0, 0⟩) := ⟨_, rfl⟩
  have hb1 : Below w.heap.size w W1 := by rw [hW1]; exact nx_trans (nx_alloc _ _) (nx_alloc _ _)
  have HW : Hid (W1 = (w.alloc (bLn x0 x1 name frm so m sc)).alloc (bPl ⟨⟨#[]⟩, 0, 0, 0⟩) ∧ Below w.heap.size w W1 ∧ W1.heap.size = w.heap.size + 2 ∧ W1.heap[w.heap.size]? = some (bLn x0 x1 name frm so m sc) ∧ W1.heap[w.heap.size + 1]? = some (bPl ⟨⟨#[]⟩, 0, 0, 0⟩)) := by
    refine ⟨hW1, hb1, by rw [hW1]; simp, ?_, ?_⟩
    · rw [hW1]; exact (heap_alloc_lt' _ _ (by simp)).trans (heap_alloc_at' _ _ rfl)
    · rw [hW1]; exact heap_alloc_at' _ _ (by simp)
  have HCH := hideIt (chainOf_any x0 x1 name frm so m sc ao cap n ls W1 (hl.nx hb1) hn hn1)
  have HSL : Hid (∀ p ∈ ls, p.1.sets.length ≤ 1001) := hsl
  have HR : Hid (RowAt W1 (.slice so m sc) m (flatS ss) ∧ ss.length = m) := ⟨hr.nx hb1, hm⟩
  obtain ⟨ch, hch⟩ : ∃ ch, chn ls 7 frm = ch := ⟨_, rfl⟩
  have HPC : Hid (poolC ls ⟨kind, name, frm, ss, pl⟩ = ⟨name, valOf 0 1 ss ch, valOf 1 0 ss ch, valOf 2 0 ss ch⟩ ∧ (∀ p ∈ ch, p.1.sets.length ≤ 1001) ∧ ch.length ≤ 7) :=
    ⟨by rw [poolC, hch], fun p hp => hsl p (chn_mem ls 7 frm p (by rw [hch]; exact hp)), by rw [← hch]; exact chn_len _ _ _⟩
  rw [hch] at HCH
  clear hl hn hr hm hW1 hb1 hsl hch
  obtain ⟨q, hq⟩ : ∃ q, ch.length = q := ⟨_, rfl⟩
  rw [hq] at HCH
  have HQ := hideIt hq
  have hq7 : q ≤ 7 := by rw [← hq]; exact HPC.out.2.2
  clear hq
  go_enter Tryz.func96, Tryz.ntmps96
  go_wp2_with fail
  rw [← HW.out.1]
  refine HCH.out.mono ?_
  rintro e w2 ⟨co, cc, rfl, hlin, hb2⟩
  have hz2 : w.heap.size + 2 ≤ w2.heap.size := by have := hb2.size; rw [HW.out.2.2.1] at this; exact this
  obtain ⟨c0, c1, c2, c3, c4⟩ := blk5 hb2 (by rw [HW.out.2.2.1]; omega) HW.out.2.2.2.1
  have g0 := fun o => (blk5 (nx_trans hb2 (nx_alloc w2 o)) (by rw [HW.out.2.2.1]; omega) HW.out.2.2.2.1).1
  have g1 := fun o => (blk5 (nx_trans hb2 (nx_alloc w2 o)) (by rw [HW.out.2.2.1]; omega) HW.out.2.2.2.1).2.1
  have g2 := fun o => (blk5 (nx_trans hb2 (nx_alloc w2 o)) (by rw [HW.out.2.2.1]; omega) HW.out.2.2.2.1).2.2.1
  have g3 := fun o => (blk5 (nx_trans hb2 (nx_alloc w2 o)) (by rw [HW.out.2.2.1]; omega) HW.out.2.2.2.1).2.2.2.1
  have g4 := fun o => (blk5 (nx_trans hb2 (nx_alloc w2 o)) (by rw [HW.out.2.2.1]; omega) HW.out.2.2.2.1).2.2.2.2
  obtain ⟨W3, hW3⟩ : ∃ W3, W3 = w2.alloc (bPl ⟨name, 0, 0, 0⟩) := ⟨_, rfl⟩
  have H3 : Hid (W3 = w2.alloc (bPl ⟨name, 0, 0, 0⟩) ∧ LinesAt w2 (.slice co q cc) ch ∧ RowAt w2 (.slice so m sc) m (flatS ss) ∧ Below w2.heap.size w2 W3 ∧ W3.heap[w2.heap.size]? = some (bPl ⟨name, 0, 0, 0⟩) ∧ w2.heap.size < W3.heap.size ∧
      w2.heap[w.heap.size]? = some (bLn x0 x1 name frm so m sc) ∧ w2.heap[w.heap.size + 1]? = some (bPl ⟨⟨#[]⟩, 0, 0, 0⟩) ∧ Below w.heap.size w w2) :=
    ⟨hW3, hlin, HR.out.1.nx hb2, by rw [hW3]; exact nx_alloc _ _, by rw [hW3]; exact heap_alloc_at' _ _ rfl, by rw [hW3]; simp, (hb2.block _ (by rw [HW.out.2.2.1]; omega)).trans HW.out.2.2.2.1, (hb2.block _ (by rw [HW.out.2.2.1]; omega)).trans HW.out.2.2.2.2, nx_trans HW.out.2.1 hb2⟩
  clear hW3 hlin hb2
  have HV0 := hideIt (valueOf_0 x0 x1 name frm so sc m ss co cc q ch W3 (H3.out.2.2.1.nx H3.out.2.2.2.1) HR.out.2 hm1 (H3.out.2.1.nx H3.out.2.2.2.1) HQ.out (by omega) HPC.out.2.1)
  obtain ⟨v0, hv0⟩ : ∃ v0, valOf 0 1 ss ch = v0 := ⟨_, rfl⟩
  obtain ⟨v1, hv1⟩ : ∃ v1, valOf 1 0 ss ch = v1 := ⟨_, rfl⟩
  obtain ⟨v2, hv2⟩ : ∃ v2, valOf 2 0 ss ch = v2 := ⟨_, rfl⟩
  rw [hv0] at HV0
  have HVV := hideIt (And.intro hv0 (And.intro hv1 hv2))
  clear hv0 hv1 hv2
  go_wp2_with fail
  rw [← H3.out.1]
  refine HV0.out.mono ?_
  rintro e w4 ⟨rfl, hb4⟩
  have hB4 : Below w2.heap.size w2 w4 := nx_trans H3.out.2.2.2.1 hb4
  obtain ⟨d0, d1, d2, d3, zd⟩ := blk4 hb4 H3.out.2.2.2.2.2.1 H3.out.2.2.2.2.1
  obtain ⟨f0, f1, f2, f3, f4⟩ := blk5 hB4 (by omega) H3.out.2.2.2.2.2.2.1
  have hh4 : w4.heap[w2.heap.size]? = some (bPl ⟨name, 0, 0, 0⟩) := (hb4.block _ H3.out.2.2.2.2.2.1).trans H3.out.2.2.2.2.1
  obtain ⟨X4, hX4⟩ : ∃ X4, X4 = w4.setCell ⟨w2.heap.size, 1, none⟩ (.int .i64 v0) := ⟨_, rfl⟩
  have hBX4 : Below w2.heap.size w2 X4 := by rw [hX4]; exact hB4.setCell (Nat.le_refl _) _
  have hhX4 : X4.heap[w2.heap.size]? = some (.cells #[.string name, .int .i64 v0, .int .i64 0, .int .i64 0] 75 (0, 0)) := by rw [hX4]; exact set_heap _ _ _ _ _ _ hh4
  have H4 : Hid (X4 = w4.setCell ⟨w2.heap.size, 1, none⟩ (.int .i64 v0) ∧ Below w2.heap.size w2 X4 ∧ X4.heap[w2.heap.size]? = some (.cells #[.string name, .int .i64 v0, .int .i64 0, .int .i64 0] 75 (0, 0))) := ⟨hX4, hBX4, hhX4⟩
  have HV1 := hideIt (valueOf_1 x0 x1 name frm so sc m ss co cc q ch X4 (H3.out.2.2.1.nx hBX4) HR.out.2 hm1 (H3.out.2.1.nx hBX4) HQ.out (by omega) HPC.out.2.1)
  rw [HVV.out.2.1] at HV1
  clear hb4 hB4 hh4 hBX4 hhX4 hX4 HV0 c0 c1 c2 c3 c4 g0 g1 g2 g3 g4
  go_wp2_with fail
  rw [← H4.out.1]
  refine HV1.out.mono ?_
  rintro e w5 ⟨rfl, hb5⟩
  have hz4 : w2.heap.size < X4.heap.size := (Array.getElem?_eq_some_iff.1 H4.out.2.2).1
  have hB5 : Below w2.heap.size w2 w5 := nx_trans H4.out.2.1 hb5
  obtain ⟨i0, i1, i2, i3, zi⟩ := blk4 hb5 hz4 H4.out.2.2
  obtain ⟨j0, j1, j2, j3, j4⟩ := blk5 hB5 (by omega) H3.out.2.2.2.2.2.2.1
  have hh5 : w5.heap[w2.heap.size]? = some (.cells #[.string name, .int .i64 v0, .int .i64 0, .int .i64 0] 75 (0, 0)) := (hb5.block _ hz4).trans H4.out.2.2
  obtain ⟨X5, hX5⟩ : ∃ X5, X5 = w5.setCell ⟨w2.heap.size, 2, none⟩ (.int .i64 v1) := ⟨_, rfl⟩
  have hBX5 : Below w2.heap.size w2 X5 := by rw [hX5]; exact hB5.setCell (Nat.le_refl _) _
  have hhX5 : X5.heap[w2.heap.size]? = some (.cells #[.string name, .int .i64 v0, .int .i64 v1, .int .i64 0] 75 (0, 0)) := by rw [hX5]; exact set_heap _ _ _ _ _ _ hh5
  have H5 : Hid (X5 = w5.setCell ⟨w2.heap.size, 2, none⟩ (.int .i64 v1) ∧ Below w2.heap.size w2 X5 ∧ X5.heap[w2.heap.size]? = some (.cells #[.string name, .int .i64 v0, .int .i64 v1, .int .i64 0] 75 (0, 0))) := ⟨hX5, hBX5, hhX5⟩
  have HV2 := hideIt (valueOf_2 x0 x1 name frm so sc m ss co cc q ch X5 (H3.out.2.2.1.nx hBX5) HR.out.2 hm1 (H3.out.2.1.nx hBX5) HQ.out (by omega) HPC.out.2.1)
  rw [HVV.out.2.2] at HV2
  clear hb5 hB5 hh5 hBX5 hhX5 hX5 HV1 d0 d1 d2 d3 zd f0 f1 f2 f3 f4 hz4
  go_wp2_with fail
  rw [← H5.out.1]
  refine HV2.out.mono ?_
  rintro e w6 ⟨rfl, hb6⟩
  have hz5 : w2.heap.size < X5.heap.size := (Array.getElem?_eq_some_iff.1 H5.out.2.2).1
  have hB6 : Below w2.heap.size w2 w6 := nx_trans H5.out.2.1 hb6
  obtain ⟨k0, k1, k2, k3, zk⟩ := blk4 hb6 hz5 H5.out.2.2
  obtain ⟨r0, r1, r2, r3, zr⟩ := blk4 hB6 (by omega) H3.out.2.2.2.2.2.2.2.1
  have HZ : Hid (Below w.heap.size w w6) := nx_trans H3.out.2.2.2.2.2.2.2.2 hB6
  clear hb6 hB6 HV2 i0 i1 i2 i3 zi j0 j1 j2 j3 j4 hz5
  go_wp2_with fail
  refine bodyPost_ret (v := plA ⟨name, v0, v1, v2⟩) (by simp [results, Tryz.results96, go_sem, r0, r1, r2, r3]) rfl ⟨?_, ?_⟩
  · rw [HPC.out.1, HVV.out.1, HVV.out.2.1, HVV.out.2.2]
  · exact ((((HZ.out.setCell (by show _ ≤ w2.heap.size; omega) _).setCell (Nat.le_succ _) _).setCell (Nat.le_succ _) _).setCell (Nat.le_succ _) _).setCell (Nat.le_succ _) _
end Co
end Go.Proofs.YtohbonfngeblkaaGreat
