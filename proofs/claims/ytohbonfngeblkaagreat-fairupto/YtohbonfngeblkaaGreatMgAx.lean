import Derived.Test.YtohbonfngeblkaaGreatMgAw
import Derived.Test.YtohbonfngeblkaaGreatRows
import Derived.WalkKit
import Derived.ProofKit
import Derived.OpenShut
import Derived.Deep.Slices
import Derived.JoinedCond
namespace Go.Proofs.YtohbonfngeblkaaGreat
namespace Lw
open Go.ChangeShapes Go.WideShapes Go.ChangeAt Go.RowKit Go.ChangeMaps
open Co
theorem ownG : ownKnob Tryz.prog.godebug = none := by kernel_rfl
theorem laidOutG : laidOutB Tryz.prog = true := by kernel_rfl
theorem cellsOpk : Tryz.prog.cellsOf 39 = 3 := by kernel_rfl
section
variable {H : Type} {enc : TypeId × Value → H} {W : World}
theorem threeG {α : Type} (l : List α) (h : l.length = 3) : ∃ a b c, l = [a, b, c] := by
  match l, h with
  | [a, b, c], _ => exact ⟨a, b, c, rfl⟩
theorem elem_opk {n : Nat} {cs : List Value} {y : DataW H × List MemPlace} (h : DataW.trod enc Tryz.prog W 0 (fun _ => true) true n 39 cs = some y) :
    ∃ x : Opk, cs = [.int .i64 x.k, .int .i64 x.a, .int .i64 x.b] ∧ I64 x.k ∧ I64 x.a ∧ I64 x.b := by
  obtain ⟨xs, m, _, _, hl, hx, hf⟩ := DataW.trod_struct Tryz.underlying39 h
  rw [cellsOpk] at hl
  obtain ⟨c0, c1, c2, rfl⟩ := threeG cs hl
  obtain ⟨x0, x1, x2, rfl⟩ := threeG xs hx
  have f0 : DataW.trod enc Tryz.prog W 0 (fun _ => true) true m 3 [c0] = some x0 := by
    have := hf 0 _ rfl
    simpa [cellsInt] using this
  have f1 : DataW.trod enc Tryz.prog W 0 (fun _ => true) true m 3 [c1] = some x1 := by
    have := hf 1 _ rfl
    simpa [cellsInt] using this
  have f2 : DataW.trod enc Tryz.prog W 0 (fun _ => true) true m 3 [c2] = some x2 := by
    have := hf 2 _ rfl
    simpa [cellsInt] using this
  obtain ⟨a, e1, _, r1⟩ := DataW.trod_int Tryz.underlying3 f0
  obtain ⟨b, e2, _, r2⟩ := DataW.trod_int Tryz.underlying3 f1
  obtain ⟨c, e3, _, r3⟩ := DataW.trod_int Tryz.underlying3 f2
  simp only [List.cons.injEq, and_true] at e1 e2 e3
  subst e1 e2 e3
  exact ⟨⟨a, b, c⟩, rfl, wf_i64 r1, wf_i64 r2, wf_i64 r3⟩
set_option maxRecDepth 100000 in
theorem open_opks {b0 : Nat} {v : Value} {d : DataW H} {p : List MemPlace} (hval : Value.okWide Tryz.prog W .any b0 25 v) (h : DataW.Trod enc Tryz.prog W 0 (fun _ => true) true 25 v d p) :
    ∃ (ao : Option Addr) (n c : Nat) (os : List Opk), v = .slice ao n c ∧ RowAt W (.slice ao n c) n (flatK os) ∧ os.length = n ∧ (∀ x ∈ os, I64 x.k ∧ I64 x.a ∧ I64 x.b) ∧ (n = 0 ∨ ∃ e sp, d = .slice e sp ∧ e.length = n) := by
  obtain ⟨ao, n, c, rfl⟩ := okWide_slice Tryz.underlying25 hval
  obtain ⟨fuel, hf⟩ := h
  rcases Deep.open_slice Tryz.underlying25 hf with ⟨h1, _⟩ | ⟨a, len, cap, mm, k, D, Pm, h1, _, hl, hm, hmm, hx, hc⟩
  · have h2 : Value.slice ao n c = .slice none 0 0 := by simpa [Value.cells] using h1
    obtain ⟨rfl, rfl, rfl⟩ : ao = none ∧ n = 0 ∧ c = 0 := by simpa using h2
    exact ⟨none, 0, 0, [], rfl, row_nil _ _ _, rfl, by simp, .inl rfl⟩
  · have h2 : Value.slice ao n c = .slice (some a) len cap := by simpa [Value.cells] using h1
    obtain ⟨rfl, rfl, rfl⟩ : ao = some a ∧ n = len ∧ c = cap := by simpa using h2
    simp only [if_true] at hmm
    subst hmm
    rw [cellsOpk] at hc
    have hex : ∀ i, i < n → ∃ x : Opk, W.cell? (a.add (i * 3)) = some (.int .i64 x.k) ∧ W.cell? ((a.add (i * 3)).add 1) = some (.int .i64 x.a) ∧ W.cell? ((a.add (i * 3)).add 2) = some (.int .i64 x.b) ∧ I64 x.k ∧ I64 x.a ∧ I64 x.b := by
      intro i hi
      obtain ⟨cs', h1, h2⟩ := hc i (by omega)
      obtain ⟨x, rfl, hI⟩ := elem_opk h2
      obtain ⟨_, _, h3⟩ := World.cells?_some h1
      have g0 := h3 0 (by omega)
      have g1 := h3 1 (by omega)
      have g2 := h3 2 (by omega)
      simp only [List.getElem?_cons_zero, List.getElem?_cons_succ] at g0 g1 g2
      refine ⟨x, ?_, g1, g2, hI⟩
      simpa [Addr.add] using g0
    have : Inhabited Opk := ⟨⟨0, 0, 0⟩⟩
    obtain ⟨f, hf⟩ := Deep.choose_lt hex
    refine ⟨some a, n, mm, (List.range n).map f, rfl, ?_, by simp, ?_, .inr ⟨(List.range n).map D, (List.range (mm - n)).map fun j => D (n + j), ?_, by simp⟩⟩
    · refine ⟨some a, mm, rfl, hl, ?_⟩
      by_cases h0 : n = 0
      · subst h0
        exact .inl (by simp [flatK])
      · obtain ⟨bl, off, spot⟩ := a
        have z0 := (hf 0 (by omega)).1
        have hspot : spot = none := by simpa [Addr.add] using World.cell?_spot z0
        subst hspot
        refine .inr ⟨bl, off, rfl, ?_, fun j x hx => ?_⟩
        · have hb := block_lt_of_cell z0
          simpa [Addr.add] using hb
        · have hj : j < n * 3 := by
            have := (List.getElem?_eq_some_iff.1 hx).1
            rw [flatK, fm_len fOk 3 (fun _ => rfl)] at this
            simpa using this
          have hi : j / 3 < n := by omega
          have hx2 := fm_at fOk 3 (fun _ => rfl) ((List.range n).map f) (j / 3) (f (j / 3)) (by rw [List.getElem?_map, List.getElem?_range hi]; rfl) (j % 3) (by omega)
          have hje : j / 3 * 3 + j % 3 = j := by omega
          rw [hje] at hx2
          have hx3 : (fOk (f (j / 3)))[j % 3]? = some x := hx2.symm.trans hx
          obtain ⟨z0, z1, z2, _⟩ := hf (j / 3) hi
          simp only [add_plain] at z0 z1 z2
          have h4 : j % 3 = 0 ∨ j % 3 = 1 ∨ j % 3 = 2 := by omega
          rcases h4 with h4 | h4 | h4 <;> rw [h4] at hx3 <;> simp [fOk] at hx3 <;> subst hx3
          · have : off + j = off + j / 3 * 3 := by omega
            rw [this]; exact z0
          · have : off + j = off + j / 3 * 3 + 1 := by omega
            rw [this]; exact z1
          · have : off + j = off + j / 3 * 3 + 2 := by omega
            rw [this]; exact z2
    · intro x hx
      obtain ⟨i, hi, rfl⟩ := List.mem_map.1 hx
      exact (hf i (List.mem_range.1 hi)).2.2.2
    · have := congrArg Prod.fst hx
      exact this
theorem gbulk_len (l : List (DataW H)) : l.length ≤ Rows.uptoBulkAll l := by
  induction l with
  | nil => simp [Rows.uptoBulkAll]
  | cons x r ih =>
    have : 1 ≤ Rows.uptoBulk x := by
      cases x with
      | lit l => cases l <;> simp [Rows.uptoBulk]
      | nil => simp [Rows.uptoBulk]
      | ptr d => simp [Rows.uptoBulk]
      | slice elems spare => simp [Rows.uptoBulk]
      | agg parts => simp [Rows.uptoBulk]
      | iface t d => simp [Rows.uptoBulk]
      | map entries => simp [Rows.uptoBulk]
      | held h => simp [Rows.uptoBulk]
    simp only [Rows.uptoBulkAll, List.length_cons]
    omega
theorem gbulk_mem {l : List (DataW H)} {d : DataW H} (hd : d ∈ l) {n : Nat} (h : n = 0 ∨ ∃ e sp, d = .slice e sp ∧ e.length = n) (hb : Rows.uptoBulkAll l ≤ 1048576) : n ≤ 1048576 := by
  rcases h with h | ⟨e, sp, rfl, he⟩
  · omega
  · induction l with
    | nil => simp at hd
    | cons x r ih =>
      simp only [Rows.uptoBulkAll] at hb
      rcases List.mem_cons.1 hd with rfl | hd
      · simp only [Rows.uptoBulk] at hb
        have := gbulk_len e
        omega
      · exact ih (by omega) hd
end
end Lw
end Go.Proofs.YtohbonfngeblkaaGreat
