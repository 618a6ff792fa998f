
import Derived.Test.YtfdnfopnhhfmkaaDoorPrD
namespace Go.Proofs.YtfdnfopnhhfmkaaDoor
open Go.RowKit
namespace Pr

/-- the cells of pools, flat -/
def flat : List Pl → List Value
  | [] => []
  | p :: r => .string p.nm :: .int .i64 p.sz :: .int .i64 p.wt :: .int .i64 p.fr :: flat r
theorem flat_len : ∀ ps : List Pl, (flat ps).length = ps.length * 4
  | [] => rfl
  | p :: r => by simp [flat, flat_len r]; omega
theorem flat_one : ∀ (ps : List Pl), ∀ v ∈ flat ps, v.oneCell' = true
  | [], v, h => by simp [flat] at h
  | p :: r, v, h => by
    simp [flat] at h
    rcases h with rfl | rfl | rfl | rfl | h
    · rfl
    · rfl
    · rfl
    · rfl
    · exact flat_one r v h
theorem flat_at : ∀ (ps : List Pl) (i : Nat) (p : Pl), ps[i]? = some p → (flat ps)[i * 4]? = some (.string p.nm) ∧ (flat ps)[i * 4 + 1]? = some (.int .i64 p.sz) ∧ (flat ps)[i * 4 + 2]? = some (.int .i64 p.wt) ∧ (flat ps)[i * 4 + 3]? = some (.int .i64 p.fr)
  | [], i, p, h => by simp at h
  | q :: r, 0, p, h => by simp at h; subst h; simp [flat]
  | q :: r, i + 1, p, h => by
    have ih := flat_at r i p (by simpa using h)
    have e0 : (i + 1) * 4 = i * 4 + 4 := by omega
    rw [e0]
    simp only [flat]
    exact ih
/-- from the cells, one by one, to the flat list and back -/
theorem flat_cells {w : World} {b off : Nat} (ps : List Pl) (h : ∀ i p, ps[i]? = some p →
    w.cell? ⟨b, off + i * 4, none⟩ = some (.string p.nm) ∧ w.cell? ⟨b, off + i * 4 + 1, none⟩ = some (.int .i64 p.sz) ∧
    w.cell? ⟨b, off + i * 4 + 2, none⟩ = some (.int .i64 p.wt) ∧ w.cell? ⟨b, off + i * 4 + 3, none⟩ = some (.int .i64 p.fr)) :
    ∀ j v, (flat ps)[j]? = some v → w.cell? ⟨b, off + j, none⟩ = some v := by
  intro j v hj
  have hlt : j < ps.length * 4 := by
    rw [← flat_len]; exact (List.getElem?_eq_some_iff.1 hj).1
  have hi : j / 4 < ps.length := by omega
  obtain ⟨p, hp⟩ : ∃ p, ps[j / 4]? = some p := ⟨_, List.getElem?_eq_getElem hi⟩
  obtain ⟨f0, f1, f2, f3⟩ := flat_at ps _ _ hp
  obtain ⟨g0, g1, g2, g3⟩ := h _ _ hp
  have hm : j % 4 = 0 ∨ j % 4 = 1 ∨ j % 4 = 2 ∨ j % 4 = 3 := by omega
  rcases hm with hm | hm | hm | hm
  · have e : j / 4 * 4 = j := by omega
    rw [e] at f0 g0; rw [f0] at hj; rw [g0, ← hj]
  · have e : j / 4 * 4 + 1 = j := by omega
    rw [e] at f1; rw [f1] at hj; rw [Nat.add_assoc, e] at g1; rw [g1, ← hj]
  · have e : j / 4 * 4 + 2 = j := by omega
    rw [e] at f2; rw [f2] at hj; rw [Nat.add_assoc, e] at g2; rw [g2, ← hj]
  · have e : j / 4 * 4 + 3 = j := by omega
    rw [e] at f3; rw [f3] at hj; rw [Nat.add_assoc, e] at g3; rw [g3, ← hj]
theorem Pools.cells {w : World} {ao : Option Addr} {ps : List Pl} (h : Pools w ao ps) : flat ps = [] ∨ ∃ a, ao = some a ∧ ∀ j v, (flat ps)[j]? = some v → w.cell? (a.add j) = some v := by
  rcases h with h | ⟨b, off, h1, h2, h3⟩
  · subst h; exact .inl rfl
  · refine .inr ⟨_, h1, fun j v hj => ?_⟩
    have := flat_cells (w := w) (b := b) (off := off) ps (fun i p hp => by obtain ⟨a1, a2, a3, a4, _⟩ := h3 i p hp; exact ⟨a1, a2, a3, a4⟩) j v hj
    have e : (⟨b, off, none⟩ : Addr).add j = ⟨b, off + j, none⟩ := by unfold Addr.add; split <;> simp_all
    rw [e]; exact this

/-- a row of the call's own for cap pools, whose first ones are ps -/
def Row4 (w : World) (g cap : Nat) (ps : List Pl) : Prop :=
  g < w.heap.size ∧ (∀ a, a < cap * 4 → ∃ v, w.cell? ⟨g, a, none⟩ = some v) ∧ (∀ a, w.frozen? ⟨g, a, none⟩ = false) ∧ ∀ i p, ps[i]? = some p →
    w.cell? ⟨g, i * 4, none⟩ = some (.string p.nm) ∧ w.cell? ⟨g, i * 4 + 1, none⟩ = some (.int .i64 p.sz) ∧
    w.cell? ⟨g, i * 4 + 2, none⟩ = some (.int .i64 p.wt) ∧ w.cell? ⟨g, i * 4 + 3, none⟩ = some (.int .i64 p.fr)
abbrev st4 (w : World) (g a : Nat) (v0 v1 v2 v3 : Value) : World :=
  (((w.setCell ⟨g, a, none⟩ v0).setCell ⟨g, a + 1, none⟩ v1).setCell ⟨g, a + 2, none⟩ v2).setCell ⟨g, a + 3, none⟩ v3
theorem set_ne (w : World) (g a b : Nat) (v : Value) (h : a ≠ b) : (w.setCell ⟨g, a, none⟩ v).cell? ⟨g, b, none⟩ = w.cell? ⟨g, b, none⟩ :=
  World.cell?_setCell_other _ _ _ _ (by intro e; injection e with e1 e2 e3; exact h e2)
theorem st4_other (w : World) (g a b : Nat) (v0 v1 v2 v3 : Value) (h : b < a ∨ a + 4 ≤ b) : (st4 w g a v0 v1 v2 v3).cell? ⟨g, b, none⟩ = w.cell? ⟨g, b, none⟩ := by
  unfold st4
  rw [set_ne _ _ _ _ _ (by omega), set_ne _ _ _ _ _ (by omega), set_ne _ _ _ _ _ (by omega), set_ne _ _ _ _ _ (by omega)]
theorem st4_at (w : World) (g a : Nat) (v0 v1 v2 v3 u0 u1 u2 u3 : Value) (h0 : w.cell? ⟨g, a, none⟩ = some u0) (h1 : w.cell? ⟨g, a + 1, none⟩ = some u1) (h2 : w.cell? ⟨g, a + 2, none⟩ = some u2) (h3 : w.cell? ⟨g, a + 3, none⟩ = some u3) :
    (st4 w g a v0 v1 v2 v3).cell? ⟨g, a, none⟩ = some v0 ∧ (st4 w g a v0 v1 v2 v3).cell? ⟨g, a + 1, none⟩ = some v1 ∧ (st4 w g a v0 v1 v2 v3).cell? ⟨g, a + 2, none⟩ = some v2 ∧ (st4 w g a v0 v1 v2 v3).cell? ⟨g, a + 3, none⟩ = some v3 := by
  unfold st4
  refine ⟨?_, ?_, ?_, ?_⟩
  · rw [set_ne _ _ _ _ _ (by omega), set_ne _ _ _ _ _ (by omega), set_ne _ _ _ _ _ (by omega)]
    exact World.cell?_setCell_same _ _ _ h0
  · rw [set_ne _ _ _ _ _ (by omega), set_ne _ _ _ _ _ (by omega)]
    exact World.cell?_setCell_same _ _ _ (u := u1) (by rw [set_ne _ _ _ _ _ (by omega)]; exact h1)
  · rw [set_ne _ _ _ _ _ (by omega)]
    exact World.cell?_setCell_same _ _ _ (u := u2) (by rw [set_ne _ _ _ _ _ (by omega), set_ne _ _ _ _ _ (by omega)]; exact h2)
  · exact World.cell?_setCell_same _ _ _ (u := u3) (by rw [set_ne _ _ _ _ _ (by omega), set_ne _ _ _ _ _ (by omega), set_ne _ _ _ _ _ (by omega)]; exact h3)
theorem st4_below {B : Nat} {w0 w : World} {g : Nat} (h : Below B w0 w) (hg : B ≤ g) (a : Nat) (v0 v1 v2 v3 : Value) : Below B w0 (st4 w g a v0 v1 v2 v3) :=
  (((h.setCell hg _).setCell hg _).setCell hg _).setCell hg _
theorem Row4.nx {w w' : World} {g cap : Nat} {ps : List Pl} (h : Row4 w g cap ps) (hb : Below w.heap.size w w') : Row4 w' g cap ps := by
  obtain ⟨h1, h2, h3, h4⟩ := h
  refine ⟨Nat.lt_of_lt_of_le h1 hb.size, fun a ha => ?_, fun a => ?_, fun i p hp => ?_⟩
  · rw [hb.cell (p := ⟨g, a, none⟩) h1]; exact h2 a ha
  · rw [hb.frozen (p := ⟨g, a, none⟩) h1]; exact h3 a
  · simp only [hb.cell (p := ⟨g, _, none⟩) h1]; exact h4 i p hp
theorem Row4.put {w : World} {g cap : Nat} {ps : List Pl} (h : Row4 w g cap ps) (hl : ps.length < cap) (nm : ByteArray) (sz wt fr : Int) :
    Row4 (st4 w g (ps.length * 4) (.string nm) (.int .i64 sz) (.int .i64 wt) (.int .i64 fr)) g cap (ps ++ [⟨nm, sz, wt, fr⟩]) := by
  obtain ⟨h1, h2, h3, h4⟩ := h
  obtain ⟨u0, c0⟩ := h2 (ps.length * 4) (by omega)
  obtain ⟨u1, c1⟩ := h2 (ps.length * 4 + 1) (by omega)
  obtain ⟨u2, c2⟩ := h2 (ps.length * 4 + 2) (by omega)
  obtain ⟨u3, c3⟩ := h2 (ps.length * 4 + 3) (by omega)
  have hat := st4_at w g (ps.length * 4) (.string nm) (.int .i64 sz) (.int .i64 wt) (.int .i64 fr) u0 u1 u2 u3 c0 c1 c2 c3
  refine ⟨by simpa [st4] using h1, fun a ha => ?_, fun a => by simpa [st4] using h3 a, fun i p hp => ?_⟩
  · by_cases hb : a < ps.length * 4 ∨ ps.length * 4 + 4 ≤ a
    · rw [st4_other _ _ _ _ _ _ _ _ hb]; exact h2 a ha
    · have hm : a = ps.length * 4 ∨ a = ps.length * 4 + 1 ∨ a = ps.length * 4 + 2 ∨ a = ps.length * 4 + 3 := by omega
      rcases hm with rfl | rfl | rfl | rfl
      · exact ⟨_, hat.1⟩
      · exact ⟨_, hat.2.1⟩
      · exact ⟨_, hat.2.2.1⟩
      · exact ⟨_, hat.2.2.2⟩
  · by_cases hi : i < ps.length
    · rw [List.getElem?_append_left hi] at hp
      rw [st4_other _ _ _ _ _ _ _ _ (by omega), st4_other _ _ _ _ _ _ _ _ (by omega), st4_other _ _ _ _ _ _ _ _ (by omega), st4_other _ _ _ _ _ _ _ _ (by omega)]
      exact h4 i p hp
    · have hi2 : i = ps.length := by
        have := (List.getElem?_eq_some_iff.1 hp).1
        simp at this; omega
      subst hi2
      rw [List.getElem?_append_right (Nat.le_refl _)] at hp
      simp at hp
      subst hp
      exact hat
theorem row_start {w : World} {g cap : Nat} {ps : List Pl} {rest : List Value} {t : TypeId} (h : w.heap[g]? = some (.cells (flat ps ++ rest).toArray t (0, 0))) (hc : cap * 4 ≤ (flat ps).length + rest.length) : Row4 w g cap ps := by
  have hlt : g < w.heap.size := (Array.getElem?_eq_some_iff.1 h).1
  have hcell : ∀ a, w.cell? ⟨g, a, none⟩ = (flat ps ++ rest)[a]? := fun a => by simp [World.cell?, h]
  refine ⟨hlt, fun a ha => ⟨(flat ps ++ rest)[a]'(by simp; omega), ?_⟩, fun a => by simp [World.frozen?, h], fun i p hp => ?_⟩
  · rw [hcell, List.getElem?_eq_getElem]
  · have hi : i < ps.length := (List.getElem?_eq_some_iff.1 hp).1
    have hfl := flat_len ps
    obtain ⟨a0, a1, a2, a3⟩ := flat_at ps i p hp
    simp only [hcell]
    rw [List.getElem?_append_left (by omega), List.getElem?_append_left (by omega), List.getElem?_append_left (by omega), List.getElem?_append_left (by omega)]
    exact ⟨a0, a1, a2, a3⟩
theorem set_blk (w : World) (g b a c : Nat) (v : Value) (h : g ≠ b) : (w.setCell ⟨g, a, none⟩ v).cell? ⟨b, c, none⟩ = w.cell? ⟨b, c, none⟩ :=
  World.cell?_setCell_other _ _ _ _ (by intro e; injection e with e1 e2 e3; exact h e1)
theorem row_pools {w w' : World} {g cap : Nat} {qs : List Pl} (h : Row4 w g cap qs) (hc : ∀ a, w'.cell? ⟨g, a, none⟩ = w.cell? ⟨g, a, none⟩) (hz : w.heap.size ≤ w'.heap.size) (hs : ∀ (i : Nat) (p : Pl), qs[i]? = some p → p.nm.size ≤ maxLen) :
    Pools w' (some ⟨g, 0, none⟩) qs := by
  refine .inr ⟨g, 0, rfl, Nat.lt_of_lt_of_le h.1 hz, fun i p hp => ?_⟩
  obtain ⟨a0, a1, a2, a3⟩ := h.2.2.2 i p hp
  simp only [Nat.zero_add, hc]
  exact ⟨a0, a1, a2, a3, hs i p hp⟩
theorem heap_alloc_new' (w : World) (o : Obj) {k : Nat} (hk : k = w.heap.size) : (w.alloc o).heap[k]? = some o := by
  subst hk
  show (w.heap.push o)[w.heap.size]? = some o
  simp
theorem info_pool : (Tryd.prog.info? 34).map (fun i => (i.zero, i.size, i.bytes)) = some (some (.agg #[.string ⟨#[]⟩, .int .i64 0, .int .i64 0, .int .i64 0]), 4, 40) := by kernel_rfl

set_option maxHeartbeats 1000000 in
theorem handed_any (b : Int) (ao : Option Addr) (c n : Nat) (ps : List Pl) (w : World) (hps : Pools w ao ps) (hn : ps.length = n) (hlen : n * 40 ≤ 140737488351232) :
    Calls Tryd.prog 5 #[.agg #[.int .i64 b, .slice ao n c]] w fun e w' => ∃ g, e = .returned (.agg #[.int .i64 b, .slice (some ⟨g, 0, none⟩) n (n + 2)]) ∧
      Pools w' (some ⟨g, 0, none⟩) (ps ++ [fgn, fgn]) ∧ Below w.heap.size w w' := by
  obtain ⟨i0, hi, hz0, hz1, hz2⟩ := info_parts info_pool
  have hmk : ∀ u : World, (Instr.makeSlice 22 (.int .i64 ((n : Int) + 2)) (.int .i64 ((n : Int) + 2))).run Tryd.prog u =
      .ok (.slice (some ⟨u.heap.size, 0, none⟩) (n + 2) (n + 2)) (u.alloc (.cells (madeCells #[.string ⟨#[]⟩, .int .i64 0, .int .i64 0, .int .i64 0] ((n + 2) * 4)) 34)) := fun u => by
    have h := run_make (P := Tryd.prog) u 22 34 i0 _ Tryd.underlying22 hi hz0 .i64 .i64 ((n : Int) + 2) ((n : Int) + 2) (by omega) (Int.le_refl _) (by rw [hz2]; omega) (by omega)
    have e : ((n : Int) + 2).toNat = n + 2 := by omega
    rw [e] at h
    simpa [hz1, Value.cells] using h
  obtain ⟨W3, hW3⟩ : ∃ W3, W3 = ((w.alloc (bTab b ao n c)).alloc (bTab 0 none 0 0)).alloc (.cells (madeCells #[.string ⟨#[]⟩, .int .i64 0, .int .i64 0, .int .i64 0] ((n + 2) * 4)) 34) := ⟨_, rfl⟩
  have hb3 : Below w.heap.size w W3 := by rw [hW3]; exact nx_trans (nx_trans (nx_alloc _ _) (nx_alloc _ _)) (nx_alloc _ _)
  have hz3 : W3.heap.size = w.heap.size + 3 := by rw [hW3]; simp
  have hg3 : W3.heap[w.heap.size + 1 + 1]? = some (.cells (madeCells #[.string ⟨#[]⟩, .int .i64 0, .int .i64 0, .int .i64 0] ((n + 2) * 4)) 34 (0, 0)) := by
    rw [hW3]; exact heap_alloc_new' _ _ (by simp)
  obtain ⟨w2, hrun, HG, hb2, hz2⟩ : ∃ w2, (Builtin.copy_ #[22, 22] 3 #[.slice (some ⟨w.heap.size + 1 + 1, 0, none⟩) (n + 2) (n + 2), .slice ao n c]).run Tryd.prog W3 = .ok (goInt n) w2 ∧
      Hid (w2.heap[w.heap.size + 1 + 1]? = some (.cells (flat ps ++ (madeCells #[.string ⟨#[]⟩, .int .i64 0, .int .i64 0, .int .i64 0] ((n + 2) * 4)).toList.drop (flat ps).length).toArray 34 (0, 0))) ∧ Below (w.heap.size + 1 + 1) W3 w2 ∧ w2.heap.size = W3.heap.size := by
    refine ⟨_, run_copy_wide W3 22 22 3 34 4 (w.heap.size + 1 + 1) (n + 2) (n + 2) ao n c _ 34 (flat ps) Tryd.underlying22 (by rw [hi]; simp [hz1]) (by decide) hg3 (by omega) (by rw [flat_len, hn]) (hps.nx hb3).cells (by rw [flat_len, hn, size_madeCells]; omega) (flat_one ps), ?_, ?_, ?_⟩
    · exact setRow_heap W3 _ _ _ _ _ hg3
    · exact below_setRow (Below.refl _ _) (Nat.le_refl _) _
    · simp [World.setRow]
  rw [hW3] at hrun
  have HN : Hid (ps.length = n ∧ W3.heap.size = w.heap.size + 3 ∧ w2.heap.size = W3.heap.size ∧ Below w.heap.size w W3 ∧ Below (w.heap.size + 1 + 1) W3 w2) := ⟨hn, hz3, hz2, hb3, hb2⟩
  have e1 : w2.cell? ⟨w.heap.size, 1, none⟩ = some (.slice ao n c) := by
    rw [hb2.cell (p := ⟨w.heap.size, 1, none⟩) (show w.heap.size < _ by omega), hW3, ((nx_alloc _ _).cell (p := ⟨w.heap.size, 1, none⟩) (by simp; omega)), ((nx_alloc _ _).cell (p := ⟨w.heap.size, 1, none⟩) (by simp))]; simp
  have e0 : w2.cell? ⟨w.heap.size, 0, none⟩ = some (.int .i64 b) := by
    rw [hb2.cell (p := ⟨w.heap.size, 0, none⟩) (show w.heap.size < _ by omega), hW3, ((nx_alloc _ _).cell (p := ⟨w.heap.size, 0, none⟩) (by simp; omega)), ((nx_alloc _ _).cell (p := ⟨w.heap.size, 0, none⟩) (by simp))]; simp
  have HB1 : Hid (w2.cell? ⟨w.heap.size + 1, 0, none⟩ = some (.int .i64 0) ∧ w2.cell? ⟨w.heap.size + 1, 1, none⟩ = some (.slice none 0 0) ∧ ∀ a, w2.frozen? ⟨w.heap.size + 1, a, none⟩ = false) := by
    refine ⟨?_, ?_, fun a => ?_⟩
    · rw [hb2.cell (p := ⟨w.heap.size + 1, 0, none⟩) (show w.heap.size + 1 < _ by omega), hW3, ((nx_alloc _ _).cell (p := ⟨w.heap.size + 1, 0, none⟩) (by simp))]; simp
    · rw [hb2.cell (p := ⟨w.heap.size + 1, 1, none⟩) (show w.heap.size + 1 < _ by omega), hW3, ((nx_alloc _ _).cell (p := ⟨w.heap.size + 1, 1, none⟩) (by simp))]; simp
    · rw [hb2.frozen (p := ⟨w.heap.size + 1, a, none⟩) (show w.heap.size + 1 < _ by omega), hW3, ((nx_alloc _ _).frozen (p := ⟨w.heap.size + 1, a, none⟩) (by simp))]; simp
  clear hn hz3 hz2 hb3 hb2 hW3 hg3
  go_enter Tryd.func5, Tryd.ntmps5
  go_wp2_with fail
  go_loopw [4] (fun i wr => ∃ (k : Nat), n ≤ k ∧ k ≤ n + 2 ∧ i = .int .i64 k ∧ Hid (Row4 wr (w.heap.size + 1 + 1) (n + 2) (ps ++ List.replicate (k - n) fgn)) ∧ Below (w.heap.size + 1 + 1) w2 wr) (fun i _ => n + 2 - (intOf i).toNat)
  case atStart =>
    refine ⟨n, Nat.le_refl _, by omega, rfl, ?_, Below.refl _ _⟩
    rw [Nat.sub_self, List.replicate_zero, List.append_nil]
    exact row_start HG.out (by rw [flat_len, HN.out.1]; simp [size_madeCells]; omega)
  case round =>
    obtain ⟨k, hk1, hk2, rfl, HR, hbel⟩ := hrel
    have f0 : wr.cell? ⟨w.heap.size, 0, none⟩ = some (.int .i64 b) := (hbel.cell (p := ⟨w.heap.size, 0, none⟩) (show w.heap.size < _ by omega)).trans e0
    have f1 : wr.cell? ⟨w.heap.size, 1, none⟩ = some (.slice ao n c) := (hbel.cell (p := ⟨w.heap.size, 1, none⟩) (show w.heap.size < _ by omega)).trans e1
    have HL : Hid ((ps ++ List.replicate (k - n) fgn).length = k) := by
      show _ = _
      rw [List.length_append, HN.out.1, List.length_replicate]; omega
    by_cases hlt : k < n + 2
    · obtain ⟨v0, v1, v2, v3, g0, g1, g2, g3⟩ : ∃ v0 v1 v2 v3, (wr.alloc bFgn).cell? ⟨w.heap.size + 1 + 1, k * 4, none⟩ = some v0 ∧ (wr.alloc bFgn).cell? ⟨w.heap.size + 1 + 1, k * 4 + 1, none⟩ = some v1 ∧ (wr.alloc bFgn).cell? ⟨w.heap.size + 1 + 1, k * 4 + 2, none⟩ = some v2 ∧ (wr.alloc bFgn).cell? ⟨w.heap.size + 1 + 1, k * 4 + 3, none⟩ = some v3 := by
        have h2 := (HR.out.nx (nx_alloc wr bFgn)).2.1
        obtain ⟨u0, c0⟩ := h2 (k * 4) (by omega)
        obtain ⟨u1, c1⟩ := h2 (k * 4 + 1) (by omega)
        obtain ⟨u2, c2⟩ := h2 (k * 4 + 2) (by omega)
        obtain ⟨u3, c3⟩ := h2 (k * 4 + 3) (by omega)
        exact ⟨u0, u1, u2, u3, c0, c1, c2, c3⟩
      have z : ∀ a, (wr.alloc bFgn).frozen? ⟨w.heap.size + 1 + 1, a, none⟩ = false := (HR.out.nx (nx_alloc wr bFgn)).2.2.1
      have HR2 : Hid (Row4 (st4 (wr.alloc bFgn) (w.heap.size + 1 + 1) (k * 4) (.string sForeign) (.int .i64 7) (.int .i64 7) (.int .i64 7)) (w.heap.size + 1 + 1) (n + 2) (ps ++ List.replicate (k + 1 - n) fgn)) := by
        have h := (HR.out.nx (nx_alloc wr bFgn)).put (by rw [HL.out]; exact hlt) sForeign 7 7 7
        rw [HL.out] at h
        have e : k + 1 - n = (k - n) + 1 := by omega
        rw [e, List.replicate_succ', ← List.append_assoc]
        exact h
      have hgz : w.heap.size + 1 + 1 ≤ wr.heap.size := Nat.le_of_lt HR.out.1
      go_wp2_with fail
      refine (foreign_any _).mono ?_; rintro e w' ⟨rfl, rfl⟩
      go_wp2_with fail
      go_roundw
      case rel => exact ⟨k + 1, by omega, by omega, by go_num, HR2, st4_below (hbel.alloc hgz _) (Nat.le_refl _) _ _ _ _ _⟩
      case measure => simp [intOf]; omega
    · obtain rfl : k = n + 2 := by omega
      have i0 : wr.cell? ⟨w.heap.size + 1, 0, none⟩ = some (.int .i64 0) := (hbel.cell (p := ⟨w.heap.size + 1, 0, none⟩) (show w.heap.size + 1 < _ by omega)).trans HB1.out.1
      have i1 : wr.cell? ⟨w.heap.size + 1, 1, none⟩ = some (.slice none 0 0) := (hbel.cell (p := ⟨w.heap.size + 1, 1, none⟩) (show w.heap.size + 1 < _ by omega)).trans HB1.out.2.1
      have z : ∀ a, wr.frozen? ⟨w.heap.size + 1, a, none⟩ = false := fun a => (hbel.frozen (p := ⟨w.heap.size + 1, a, none⟩) (show w.heap.size + 1 < _ by omega)).trans (HB1.out.2.2 a)
      have hnn : (n : Int) ≤ (n : Int) + 2 := by omega
      have HR3 : Hid (Row4 wr (w.heap.size + 1 + 1) (n + 2) (ps ++ [fgn, fgn])) := by
        have h := HR.out
        have e : n + 2 - n = 2 := by omega
        rw [e] at h
        exact h
      go_wp2_with fail
      go_region
      all_goals go_wp2_with fail
      refine bodyPost_ret (v := .agg #[.int .i64 b, .slice (some ⟨w.heap.size + 1 + 1, 0, none⟩) n (n + 2)]) (by simp [results, Tryd.results5, go_sem, i0, i1]) rfl ⟨w.heap.size + 1 + 1, rfl, ?_, ?_⟩
      · refine row_pools HR3.out (fun a => ?_) (by simp) (fun i p hp => ?_)
        · rw [World.cell?_drew, set_blk _ _ _ _ _ _ (by omega), set_blk _ _ _ _ _ _ (by omega)]
        · by_cases hi : i < ps.length
          · rw [List.getElem?_append_left hi] at hp
            obtain ⟨_, _, _, _, _, _, _, _, h⟩ := hps.at hp
            exact h
          · rw [List.getElem?_append_right (by omega)] at hp
            have : p = fgn := by
              have hm := List.mem_of_getElem? hp
              simpa using hm
            subst this
            simp [fgn, maxLen, ByteArray.size]
      · have hb3 := HN.out.2.2.2.1
        have hb2 := HN.out.2.2.2.2
        exact ((((hb3.trans (hb2.mono (by omega))).trans (hbel.mono (by omega))).setCell (Nat.le_succ _) _).setCell (Nat.le_succ _) _).drew
end Pr
end Go.Proofs.YtfdnfopnhhfmkaaDoor
