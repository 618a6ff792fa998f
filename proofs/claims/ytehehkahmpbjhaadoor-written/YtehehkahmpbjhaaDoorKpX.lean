
import Derived.Test.YtehehkahmpbjhaaDoorKpA
import Derived.Test.YtehehkahmpbjhaaDoorCoN
import Derived.WalkKit
import Derived.ProofKit
import Derived.OpenShut
import Derived.Deep.DeepHandedRow
import Derived.Deep.Slices
import Derived.SizedLaws
import Derived.Lib.SmallJoins
namespace Go.Proofs.YtehehkahmpbjhaaDoor
namespace Co
open Go.ChangeShapes Go.WideShapes Go.ChangeAt Go.RowKit Go.Joins

theorem cellsTab : Tryd.prog.cellsOf 24 = 2 := by kernel_rfl
theorem cellsPool : Tryd.prog.cellsOf 36 = 4 := by kernel_rfl
theorem cellsInt : Tryd.prog.cellsOf 3 = 1 := by kernel_rfl
theorem cellsStr : Tryd.prog.cellsOf 9 = 1 := by kernel_rfl
theorem wf_i64 {n : Int} (h : (Lit.int .i64 n).wf = true) : I64 n := by
  have h' : (decide (IntKind.i64.min ≤ n) && decide (n ≤ IntKind.i64.max)) = true := h
  simp [IntKind.min, IntKind.max, IntKind.signed, IntKind.bits] at h'
  exact h'
section
variable {H : Type} {enc : TypeId × Value → H} {W : World}
theorem flat_cells (W : World) (bl : Nat) : ∀ (off : Nat) (ps : List Pl), (∀ (i : Nat) (p : Pl), ps[i]? = some p → W.cell? ⟨bl, off + i * 4, none⟩ = some (.string p.nm) ∧ W.cell? ⟨bl, off + i * 4 + 1, none⟩ = some (.int .i64 p.sz) ∧ W.cell? ⟨bl, off + i * 4 + 2, none⟩ = some (.int .i64 p.wt) ∧ W.cell? ⟨bl, off + i * 4 + 3, none⟩ = some (.int .i64 p.fr)) →
    ∀ (j : Nat) (x : Value), (flatP ps)[j]? = some x → W.cell? ⟨bl, off + j, none⟩ = some x
  | off, [], _, j, x, h => by simp [flatP] at h
  | off, q :: r, hp, j, x, h => by
    have h0 := hp 0 q rfl
    match j, h with
    | 0, h => simp only [flatP, List.getElem?_cons_zero, Option.some.injEq] at h; subst h; simpa using h0.1
    | 1, h => simp only [flatP, List.getElem?_cons_succ, List.getElem?_cons_zero, Option.some.injEq] at h; subst h; simpa using h0.2.1
    | 2, h => simp only [flatP, List.getElem?_cons_succ, List.getElem?_cons_zero, Option.some.injEq] at h; subst h; simpa using h0.2.2.1
    | 3, h => simp only [flatP, List.getElem?_cons_succ, List.getElem?_cons_zero, Option.some.injEq] at h; subst h; simpa using h0.2.2.2
    | j + 4, h =>
      simp only [flatP, List.getElem?_cons_succ] at h
      have ih := flat_cells W bl (off + 4) r (fun i p hi => by
        have := hp (i + 1) p (by simpa using hi)
        have e : off + (i + 1) * 4 = off + 4 + i * 4 := by omega
        rw [e] at this
        exact this) j x h
      rw [show off + (j + 4) = off + 4 + j by omega]
      exact ih

theorem kfour {α : Type} (l : List α) (h : l.length = 4) : ∃ a b c d, l = [a, b, c, d] := by
  match l, h with
  | [a, b, c, d], _ => exact ⟨a, b, c, d, rfl⟩

theorem kelem_pool {n : Nat} {cs : List Value} {y : DataW H × List MemPlace} (h : DataW.trod enc Tryd.prog W 0 (fun _ => true) true n 36 cs = some y) :
    ∃ p : Pl, cs = [.string p.nm, .int .i64 p.sz, .int .i64 p.wt, .int .i64 p.fr] ∧ I64 p.sz ∧ I64 p.wt ∧ I64 p.fr := by
  obtain ⟨xs, m, _, _, hl, hx, hf⟩ := DataW.trod_struct Tryd.underlying36 h
  rw [cellsPool] at hl
  obtain ⟨c0, c1, c2, c3, rfl⟩ := kfour cs hl
  obtain ⟨x0, x1, x2, x3, rfl⟩ := kfour xs hx
  have f0 : DataW.trod enc Tryd.prog W 0 (fun _ => true) true m 9 [c0] = some x0 := by
    have := hf 0 _ rfl
    simpa [cellsStr] using this
  have f1 : DataW.trod enc Tryd.prog W 0 (fun _ => true) true m 3 [c1] = some x1 := by
    have := hf 1 _ rfl
    simpa [cellsInt] using this
  have f2 : DataW.trod enc Tryd.prog W 0 (fun _ => true) true m 3 [c2] = some x2 := by
    have := hf 2 _ rfl
    simpa [cellsInt] using this
  have f3 : DataW.trod enc Tryd.prog W 0 (fun _ => true) true m 3 [c3] = some x3 := by
    have := hf 3 _ rfl
    simpa [cellsInt] using this
  obtain ⟨s, e0, _, _⟩ := DataW.trod_string Tryd.underlying9 f0
  obtain ⟨a, e1, _, r1⟩ := DataW.trod_int Tryd.underlying3 f1
  obtain ⟨b, e2, _, r2⟩ := DataW.trod_int Tryd.underlying3 f2
  obtain ⟨c, e3, _, r3⟩ := DataW.trod_int Tryd.underlying3 f3
  simp only [List.cons.injEq, and_true] at e0 e1 e2 e3
  subst e0 e1 e2 e3
  exact ⟨⟨s, a, b, c⟩, rfl, wf_i64 r1, wf_i64 r2, wf_i64 r3⟩

theorem kopen_table {b0 : Nat} {v : Value} {d : DataW H} {p : List MemPlace} (hval : Value.okWide Tryd.prog W .any b0 24 v) (h : DataW.Trod enc Tryd.prog W 0 (fun _ => true) true 24 v d p) :
    ∃ (b : Int) (ao : Option Addr) (n c : Nat) (ps : List Pl), v = .agg #[.int .i64 b, .slice ao n c] ∧ RowAt W (.slice ao n c) n (flatP ps) ∧ ps.length = n ∧ n ≤ maxLen ∧ I64 b ∧ ∀ x ∈ ps, I64 x.sz ∧ I64 x.wt ∧ I64 x.fr := by
  obtain ⟨c0, c1, y0, y1, m, rfl, rfl, _, hy0, hy1⟩ := open_agg2 Tryd.underlying24 (by kernel_rfl) cellsTab hval h
  obtain ⟨b, e0, hx0, rb⟩ := DataW.trod_int Tryd.underlying3 hy0
  simp only [List.cons.injEq, and_true] at e0
  subst e0
  rcases Deep.open_slice Tryd.underlying22 hy1 with ⟨h1, _⟩ | ⟨a, len, cap, mm, k, D, Pm, h1, _, hl, hm, hmm, hx, hc⟩
  · simp only [List.cons.injEq, and_true] at h1
    subst h1
    exact ⟨b, none, 0, 0, [], rfl, row_nil _ _ _, rfl, Nat.zero_le _, wf_i64 rb, by simp⟩
  · simp only [List.cons.injEq, and_true] at h1
    subst h1
    simp only [if_true] at hmm
    subst hmm
    rw [cellsPool] at hc
    have hex : ∀ i, i < len → ∃ p : Pl, W.cell? (a.add (i * 4)) = some (.string p.nm) ∧ W.cell? ((a.add (i * 4)).add 1) = some (.int .i64 p.sz) ∧ W.cell? ((a.add (i * 4)).add 2) = some (.int .i64 p.wt) ∧ W.cell? ((a.add (i * 4)).add 3) = some (.int .i64 p.fr) ∧ I64 p.sz ∧ I64 p.wt ∧ I64 p.fr := by
      intro i hi
      obtain ⟨cs', h1, h2⟩ := hc i (by omega)
      obtain ⟨p, rfl, hs⟩ := kelem_pool h2
      obtain ⟨_, _, h3⟩ := World.cells?_some h1
      have g0 := h3 0 (by omega)
      have g1 := h3 1 (by omega)
      have g2 := h3 2 (by omega)
      have g3 := h3 3 (by omega)
      simp only [List.getElem?_cons_zero, List.getElem?_cons_succ] at g0 g1 g2 g3
      refine ⟨p, ?_, g1, g2, g3, hs⟩
      simpa [Addr.add] using g0
    have : Inhabited Pl := ⟨⟨⟨#[]⟩, 0, 0, 0⟩⟩
    obtain ⟨f, hf⟩ := Deep.choose_lt hex
    refine ⟨b, some a, len, mm, (List.range len).map f, rfl, ⟨_, _, rfl, hl, ?_⟩, by simp, Nat.le_trans hl hm, wf_i64 rb, ?_⟩
    · by_cases h0 : len = 0
      · subst h0; exact .inl rfl
      · obtain ⟨bl, off, spot⟩ := a
        have z0 := (hf 0 (by omega)).1
        have hspot : spot = none := by simpa [Addr.add] using World.cell?_spot z0
        subst hspot
        refine .inr ⟨bl, off, rfl, ?_, ?_⟩
        · have hb := block_lt_of_cell z0
          simpa [Addr.add] using hb
        · refine flat_cells W bl off _ (fun i p hp => ?_)
          have hi : i < len := by
            have := (List.getElem?_eq_some_iff.1 hp).1
            simpa using this
          have hpe : f i = p := by
            rw [List.getElem?_map, List.getElem?_range hi] at hp
            simpa using hp
          have h5 := hf i hi
          rw [hpe] at h5
          simp only [add_plain] at h5
          exact ⟨h5.1, h5.2.1, h5.2.2.1, h5.2.2.2.1⟩
    · intro x hx
      obtain ⟨i, hi, rfl⟩ := List.mem_map.1 hx
      exact (hf i (List.mem_range.1 hi)).2.2.2.2
end
end Co
end Go.Proofs.YtehehkahmpbjhaaDoor
