
import Derived.Test.YtfdnfopnhhfmkaaDoorPrK
import Derived.Test.YtfdnfopnhhfmkaaDoorCards
import Derived.Test.YtfdnfopnhhfmkaaDoorTie
import Derived.WalkKit
import Derived.ProofKit
import Derived.OpenShut
import Derived.Deep.DeepHandedRow
import Derived.Deep.Slices
import Derived.Lib.LaidTab
import Derived.Lib.SmallJoins
import Derived.SizedLaws
namespace Go.Proofs.YtfdnfopnhhfmkaaDoor
namespace Pr
open Go.ChangeShapes Go.WideShapes Go.ChangeAt Go.RowKit Go.Joins

theorem own : ownKnob Tryd.prog.godebug = none := by kernel_rfl
theorem laidOut : laidOutB Tryd.prog = true := by kernel_rfl
theorem cellsTab : Tryd.prog.cellsOf 24 = 2 := by kernel_rfl
theorem cellsPool : Tryd.prog.cellsOf 34 = 4 := by kernel_rfl
theorem cellsInt : Tryd.prog.cellsOf 3 = 1 := by kernel_rfl
theorem cellsStr : Tryd.prog.cellsOf 9 = 1 := by kernel_rfl
theorem bytesPool : Tryd.prog.bytesOf 34 = 40 := by kernel_rfl
theorem gTab : Tryd.prog.globalNamed "internal/strconv.uint64pow10" = some 0 := by kernel_rfl
theorem gTabType : (Tryd.prog.globals[0]?).map (·.type) = some 53 := by kernel_rfl
theorem cellsArr : Tryd.prog.cellsOf 53 = 20 := by kernel_rfl
theorem cellsU64 : Tryd.prog.cellsOf 46 = 1 := by kernel_rfl
theorem tabDatum : (Rows.laid_internal_strconv_uint64pow10 : DataW Unit) = Lib.tabData .u64 Lib.pow10Tab := by kernel_rfl

/-- what the row's list gives -/
theorem table_of {W : World} (h : laidMetH Tryd.prog Rows.printsRow.laid W) : Tab W := by
  have h' : laidMet Tryd.prog [("math/bits.deBruijn32tab", Rows.laid_math_bits_deBruijn32tab), ("math/bits.deBruijn64tab", Rows.laid_math_bits_deBruijn64tab), ("internal/strconv.uint64pow10", Rows.laid_internal_strconv_uint64pow10)] W := h
  obtain ⟨ps, ⟨_, _, _, _, _, _, _, _, _, _, ⟨_, _, _, _, _, _, _, _, _, _, ⟨g, t, cs, fuel, p, q, hg, ht, hvar, hd, _, _⟩, _⟩, _⟩, _⟩ := h'
  obtain rfl := Option.some.inj (gTab.symm.trans hg)
  obtain rfl := Option.some.inj (gTabType.symm.trans ht)
  rw [tabDatum] at hd
  unfold Tab Lib.TabIs
  rw [hvar, ← Lib.cells_of_tab Tryd.underlying53 Tryd.underlying46 cellsU64 cellsArr hd]

section
variable {H : Type} {enc : TypeId × Value → H} {W : World}

theorem four {α : Type} (l : List α) (h : l.length = 4) : ∃ a b c d, l = [a, b, c, d] := by
  match l, h with
  | [a, b, c, d], _ => exact ⟨a, b, c, d, rfl⟩

theorem elem_pool {n : Nat} {cs : List Value} {y : DataW H × List MemPlace} (h : DataW.trod enc Tryd.prog W 0 (fun _ => true) true n 34 cs = some y) :
    ∃ p : Pl, cs = [.string p.nm, .int .i64 p.sz, .int .i64 p.wt, .int .i64 p.fr] ∧ p.nm.size ≤ maxLen := by
  obtain ⟨xs, m, _, _, hl, hx, hf⟩ := DataW.trod_struct Tryd.underlying34 h
  rw [cellsPool] at hl
  obtain ⟨c0, c1, c2, c3, rfl⟩ := four cs hl
  obtain ⟨x0, x1, x2, x3, rfl⟩ := four xs hx
  have f0 : DataW.trod enc Tryd.prog W 0 (fun _ => true) true m 9 [c0] = some x0 := by
    have := hf 0 _ rfl
    simpa [cellsStr] using this
  have f1 : DataW.trod enc Tryd.prog W 0 (fun _ => true) true m 3 [c1] = some x1 := by
    have := hf 1 _ rfl
    simpa [cellsInt] using this
  have f2 : DataW.trod enc Tryd.prog W 0 (fun _ => true) true m 3 [c2] = some x2 := by
    have := hf 2 _ rfl
    simpa [cellsInt] using this
  have f3 : DataW.trod enc Tryd.prog W 0 (fun _ => true) true m 3 [c3] = some x3 := by
    have := hf 3 _ rfl
    simpa [cellsInt] using this
  obtain ⟨s, e0, _, hs⟩ := DataW.trod_string Tryd.underlying9 f0
  obtain ⟨a, e1, _, _⟩ := DataW.trod_int Tryd.underlying3 f1
  obtain ⟨b, e2, _, _⟩ := DataW.trod_int Tryd.underlying3 f2
  obtain ⟨c, e3, _, _⟩ := DataW.trod_int Tryd.underlying3 f3
  simp only [List.cons.injEq, and_true] at e0 e1 e2 e3
  subst e0 e1 e2 e3
  exact ⟨⟨s, a, b, c⟩, rfl, hs⟩

theorem open_table {b0 : Nat} {v : Value} {d : DataW H} {p : List MemPlace} (hval : Value.okWide Tryd.prog W .any b0 24 v) (h : DataW.Trod enc Tryd.prog W 0 (fun _ => true) true 24 v d p) :
    ∃ (b : Int) (ao : Option Addr) (n c : Nat) (ps : List Pl), v = .agg #[.int .i64 b, .slice ao n c] ∧ Pools W ao ps ∧ ps.length = n ∧
      (n = 0 ∨ ∃ e sp, d = .agg [.lit (.int .i64 b), .slice e sp] ∧ e.length = n) := by
  obtain ⟨c0, c1, y0, y1, m, rfl, rfl, _, hy0, hy1⟩ := open_agg2 Tryd.underlying24 (by kernel_rfl) cellsTab hval h
  obtain ⟨b, e0, hx0, _⟩ := DataW.trod_int Tryd.underlying3 hy0
  simp only [List.cons.injEq, and_true] at e0
  subst e0
  rcases Deep.open_slice Tryd.underlying22 hy1 with ⟨h1, _⟩ | ⟨a, len, cap, mm, k, D, Pm, h1, _, hl, hm, hmm, hx, hc⟩
  · simp only [List.cons.injEq, and_true] at h1
    subst h1
    exact ⟨b, none, 0, 0, [], rfl, .inl rfl, rfl, .inl rfl⟩
  · simp only [List.cons.injEq, and_true] at h1
    subst h1
    simp only [if_true] at hmm
    subst hmm
    rw [cellsPool] at hc
    have hex : ∀ i, i < len → ∃ p : Pl, W.cell? (a.add (i * 4)) = some (.string p.nm) ∧ W.cell? ((a.add (i * 4)).add 1) = some (.int .i64 p.sz) ∧ W.cell? ((a.add (i * 4)).add 2) = some (.int .i64 p.wt) ∧ W.cell? ((a.add (i * 4)).add 3) = some (.int .i64 p.fr) ∧ p.nm.size ≤ maxLen := by
      intro i hi
      obtain ⟨cs', h1, h2⟩ := hc i (by omega)
      obtain ⟨p, rfl, hs⟩ := elem_pool h2
      obtain ⟨_, _, h3⟩ := World.cells?_some h1
      have g0 := h3 0 (by omega)
      have g1 := h3 1 (by omega)
      have g2 := h3 2 (by omega)
      have g3 := h3 3 (by omega)
      simp only [List.getElem?_cons_zero, List.getElem?_cons_succ] at g0 g1 g2 g3
      refine ⟨p, ?_, g1, g2, g3, hs⟩
      simpa [Addr.add] using g0
    have : Inhabited Pl := ⟨⟨⟨#[]⟩, 0, 0, 0⟩⟩
    obtain ⟨f, hf⟩ := Deep.choose_lt hex
    refine ⟨b, some a, len, mm, (List.range len).map f, rfl, ?_, by simp, .inr ⟨(List.range len).map D, (List.range (mm - len)).map fun j => D (len + j), ?_, ?_⟩⟩
    · by_cases h0 : len = 0
      · subst h0; exact .inl rfl
      · obtain ⟨bl, off, spot⟩ := a
        have z0 := (hf 0 (by omega)).1
        have hspot : spot = none := by simpa [Addr.add] using World.cell?_spot z0
        subst hspot
        refine .inr ⟨bl, off, rfl, ?_, fun i p hp => ?_⟩
        · have hb := block_lt_of_cell z0
          simpa [Addr.add] using hb
        · have hi : i < len := by
            have := (List.getElem?_eq_some_iff.1 hp).1
            simpa using this
          have hpe : f i = p := by
            rw [List.getElem?_map, List.getElem?_range hi] at hp
            simpa using hp
          have h5 := hf i hi
          rw [hpe] at h5
          simp only [add_plain] at h5
          exact h5
    · rw [hx0, hx]
    · simp
end

/-- WHAT THE WALK GIVES, for every argument and every world that holds the table -/
theorem contract (H : Type) (enc : TypeId × Value → H) (W : World) (base : Nat) (args : Array Value) (ds gs : List (DataW H)) (before : List MemPlace)
    (hval : ∀ (j : Nat) t v, Tryd.f3.params[j]? = some t → args[j]? = some v → Value.okWide Tryd.prog W .any base t v)
    (hW : DataW.Whole enc Tryd.prog Tryd.f3.params.toList Rows.printsSpec.vars false W args.toList ds gs before)
    (hsz0 : (DataW.weightsEach Tryd.prog (Tryd.f3.params.toList ++ Rows.printsSpec.plain.varTypes Tryd.prog) (ds ++ gs)).all (· ≤ reachBytes) = true)
    (hL : laidMetH Tryd.prog Rows.printsRow.laid W) :
    Calls Tryd.prog 3 args W fun e W' => ∃ v, e = .returned v ∧ Rows.printsSpec.post enc Tryd.prog Tryd.f3 false true false false W args v W' := by
  have hsz := hsz0
  have hW' := hW
  obtain ⟨p, q, hA0, hV, rfl, hfz, hnd⟩ := hW
  have hA : DataW.TrodAll enc Tryd.prog W 0 (fun _ => true) true Tryd.f3.params.toList args.toList ds p := hA0
  rw [Tryd.params3] at hA hval hsz
  obtain ⟨v0, vs0, d0, ds0, p0, q0, hargs, rfl, rfl, h0, r0⟩ := trodAll_cons hA
  obtain ⟨rfl, rfl, rfl⟩ := trodAll_nil r0
  obtain rfl : args = #[v0] := by cases args; simp_all
  obtain ⟨rfl, rfl⟩ := trodVars_none hV
  have hok := hval 0 24 v0 rfl rfl
  obtain ⟨b, ao, n, c, ps, rfl, hps, hn, hd⟩ := open_table hok h0
  have hreach : n * 40 ≤ 140737488351232 := by
    rcases hd with h | ⟨e, sp, hd, he⟩
    · subst h; simp
    · have hm := List.all_eq_true.1 hsz _ (DataW.weights_mem_each (j := 0) (t := 24) rfl rfl ((e.length + sp.length) * Tryd.prog.bytesOf 34)
        (by rw [hd]; simp [DataW.weights, DataW.weightsEach, Tryd.underlying24, Tryd.underlying22]))
      rw [bytesPool] at hm
      have hm2 := of_decide_eq_true hm
      unfold reachBytes at hm2
      omega
  clear hA0
  simp only [List.append_nil] at hW'
  have hlt : ∀ x ∈ p0, x.block < W.heap.size := fun x hx => by simpa using hW'.lt x hx
  refine (prints_any b ao c n ps W hps hn hreach (table_of hL)).mono fun e W' ⟨he, hb⟩ => ?_
  subst he
  refine ⟨_, rfl, _, _, _, [], p0 ++ [], [], hW', ?_, ?_, rfl, hb.frame _, fun h => by cases h⟩
  · exact trodAll_cons_mk (shut_bool Tryd.underlying4 _) trodAll_mk0
  · exact trodAll_cons_mk (Below.trod laidOut (by kernel_rfl) (of_decide_eq_true (by kernel_rfl)) h0 hb hlt) trodAll_mk0
end Pr
end Go.Proofs.YtfdnfopnhhfmkaaDoor
