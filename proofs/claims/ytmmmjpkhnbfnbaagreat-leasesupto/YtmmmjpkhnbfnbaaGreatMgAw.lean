import Derived.Test.YtmmmjpkhnbfnbaaGreatRows
import Derived.Test.YtmmmjpkhnbfnbaaGreatMgAv
import Derived.WalkKit
import Derived.ProofKit
import Derived.OpenShut
import Derived.Deep.Slices
import Derived.JoinedCond
namespace Go.Proofs.YtmmmjpkhnbfnbaaGreat
namespace Lw
open Go.ChangeShapes Go.WideShapes Go.ChangeAt Go.RowKit Go.ChangeMaps
open Co

theorem ownL : ownKnob Tryz.prog.godebug = none := by kernel_rfl
theorem laidOutL : laidOutB Tryz.prog = true := by kernel_rfl
theorem cellsOp : Tryz.prog.cellsOf 49 = 4 := by kernel_rfl
theorem cellsIntL : Tryz.prog.cellsOf 3 = 1 := by kernel_rfl
theorem cellsStrL : Tryz.prog.cellsOf 9 = 1 := by kernel_rfl
section
variable {H : Type} {enc : TypeId × Value → H} {W : World}
theorem fourL {α : Type} (l : List α) (h : l.length = 4) : ∃ a b c d, l = [a, b, c, d] := by
  match l, h with
  | [a, b, c, d], _ => exact ⟨a, b, c, d, rfl⟩
theorem elem_op {n : Nat} {cs : List Value} {y : DataW H × List MemPlace} (h : DataW.trod enc Tryz.prog W 0 (fun _ => true) true n 49 cs = some y) :
    ∃ x : Opr, cs = [.int .i64 x.k, .int .i64 x.a, .int .i64 x.b, .string x.s] := by
  obtain ⟨xs, m, _, _, hl, hx, hf⟩ := DataW.trod_struct Tryz.underlying49 h
  rw [cellsOp] at hl
  obtain ⟨c0, c1, c2, c3, rfl⟩ := fourL cs hl
  obtain ⟨x0, x1, x2, x3, rfl⟩ := fourL xs hx
  have f0 : DataW.trod enc Tryz.prog W 0 (fun _ => true) true m 3 [c0] = some x0 := by
    have := hf 0 _ rfl
    simpa [cellsIntL] using this
  have f1 : DataW.trod enc Tryz.prog W 0 (fun _ => true) true m 3 [c1] = some x1 := by
    have := hf 1 _ rfl
    simpa [cellsIntL] using this
  have f2 : DataW.trod enc Tryz.prog W 0 (fun _ => true) true m 3 [c2] = some x2 := by
    have := hf 2 _ rfl
    simpa [cellsIntL] using this
  have f3 : DataW.trod enc Tryz.prog W 0 (fun _ => true) true m 9 [c3] = some x3 := by
    have := hf 3 _ rfl
    simpa [cellsStrL] using this
  obtain ⟨a, e1, _, _⟩ := DataW.trod_int Tryz.underlying3 f0
  obtain ⟨b, e2, _, _⟩ := DataW.trod_int Tryz.underlying3 f1
  obtain ⟨c, e3, _, _⟩ := DataW.trod_int Tryz.underlying3 f2
  obtain ⟨s, e0, _, hs⟩ := DataW.trod_string Tryz.underlying9 f3
  simp only [List.cons.injEq, and_true] at e0 e1 e2 e3
  subst e0 e1 e2 e3
  exact ⟨⟨a, b, c, s⟩, rfl⟩
set_option maxRecDepth 100000 in
theorem open_script {b0 : Nat} {v : Value} {d : DataW H} {p : List MemPlace} (hval : Value.okWide Tryz.prog W .any b0 22 v) (h : DataW.Trod enc Tryz.prog W 0 (fun _ => true) true 22 v d p) :
    ∃ (ao : Option Addr) (n c : Nat) (os : List Opr), v = .slice ao n c ∧ RowAt W (.slice ao n c) n (flatO os) ∧ os.length = n ∧ (n = 0 ∨ ∃ e sp, d = .slice e sp ∧ e.length = n) := by
  obtain ⟨ao, n, c, rfl⟩ := okWide_slice Tryz.underlying22 hval
  obtain ⟨fuel, hf⟩ := h
  rcases Deep.open_slice Tryz.underlying22 hf with ⟨h1, _⟩ | ⟨a, len, cap, mm, k, D, Pm, h1, _, hl, hm, hmm, hx, hc⟩
  · have h2 : Value.slice ao n c = .slice none 0 0 := by simpa [Value.cells] using h1
    obtain ⟨rfl, rfl, rfl⟩ : ao = none ∧ n = 0 ∧ c = 0 := by simpa using h2
    exact ⟨none, 0, 0, [], rfl, row_nil _ _ _, rfl, .inl rfl⟩
  · have h2 : Value.slice ao n c = .slice (some a) len cap := by simpa [Value.cells] using h1
    obtain ⟨rfl, rfl, rfl⟩ : ao = some a ∧ n = len ∧ c = cap := by simpa using h2
    simp only [if_true] at hmm
    subst hmm
    rw [cellsOp] at hc
    have hex : ∀ i, i < n → ∃ x : Opr, W.cell? (a.add (i * 4)) = some (.int .i64 x.k) ∧ W.cell? ((a.add (i * 4)).add 1) = some (.int .i64 x.a) ∧ W.cell? ((a.add (i * 4)).add 2) = some (.int .i64 x.b) ∧ W.cell? ((a.add (i * 4)).add 3) = some (.string x.s) := by
      intro i hi
      obtain ⟨cs', h1, h2⟩ := hc i (by omega)
      obtain ⟨x, rfl⟩ := elem_op h2
      obtain ⟨_, _, h3⟩ := World.cells?_some h1
      have g0 := h3 0 (by omega)
      have g1 := h3 1 (by omega)
      have g2 := h3 2 (by omega)
      have g3 := h3 3 (by omega)
      simp only [List.getElem?_cons_zero, List.getElem?_cons_succ] at g0 g1 g2 g3
      refine ⟨x, ?_, g1, g2, g3⟩
      simpa [Addr.add] using g0
    have : Inhabited Opr := ⟨⟨0, 0, 0, ⟨#[]⟩⟩⟩
    obtain ⟨f, hf⟩ := Deep.choose_lt hex
    refine ⟨some a, n, mm, (List.range n).map f, rfl, ?_, by simp, .inr ⟨(List.range n).map D, (List.range (mm - n)).map fun j => D (n + j), ?_, by simp⟩⟩
    · refine ⟨some a, mm, rfl, hl, ?_⟩
      by_cases h0 : n = 0
      · subst h0
        exact .inl (by simp [flatO])
      · obtain ⟨bl, off, spot⟩ := a
        have z0 := (hf 0 (by omega)).1
        have hspot : spot = none := by simpa [Addr.add] using World.cell?_spot z0
        subst hspot
        refine .inr ⟨bl, off, rfl, ?_, fun j x hx => ?_⟩
        · have hb := block_lt_of_cell z0
          simpa [Addr.add] using hb
        · have hj : j < n * 4 := by
            have := (List.getElem?_eq_some_iff.1 hx).1
            rw [flatO, fm_len fOp 4 (fun _ => rfl)] at this
            simpa using this
          have hi : j / 4 < n := by omega
          have hx2 := fm_at fOp 4 (fun _ => rfl) ((List.range n).map f) (j / 4) (f (j / 4)) (by rw [List.getElem?_map, List.getElem?_range hi]; rfl) (j % 4) (by omega)
          have hje : j / 4 * 4 + j % 4 = j := by omega
          rw [hje] at hx2
          have hx3 : (fOp (f (j / 4)))[j % 4]? = some x := hx2.symm.trans hx
          obtain ⟨z0, z1, z2, z3⟩ := hf (j / 4) hi
          simp only [add_plain] at z0 z1 z2 z3
          have h4 : j % 4 = 0 ∨ j % 4 = 1 ∨ j % 4 = 2 ∨ j % 4 = 3 := by omega
          rcases h4 with h4 | h4 | h4 | h4 <;> rw [h4] at hx3 <;> simp [fOp] at hx3 <;> subst hx3
          · have : off + j = off + j / 4 * 4 := by omega
            rw [this]; exact z0
          · have : off + j = off + j / 4 * 4 + 1 := by omega
            rw [this]; exact z1
          · have : off + j = off + j / 4 * 4 + 2 := by omega
            rw [this]; exact z2
          · have : off + j = off + j / 4 * 4 + 3 := by omega
            rw [this]; exact z3
    · have := congrArg Prod.fst hx
      exact this
theorem bulk_len (l : List (DataW H)) : l.length ≤ Rows.uptoBulkAll l := by
  induction l with
  | nil => simp [Rows.uptoBulkAll]
  | cons x r ih =>
    have : 1 ≤ Rows.uptoBulk x := by
      cases x with
      | lit l => cases l <;> simp [Rows.uptoBulk]
      | nil => simp [Rows.uptoBulk]
      | ptr d => simp [Rows.uptoBulk]
      | slice elems spare => simp [Rows.uptoBulk]
      | agg parts => simp [Rows.uptoBulk]
      | iface t d => simp [Rows.uptoBulk]
      | map entries => simp [Rows.uptoBulk]
      | held h => simp [Rows.uptoBulk]
    simp only [Rows.uptoBulkAll, List.length_cons]
    omega
end

set_option maxRecDepth 100000 in
/-- WHAT THE WALK GIVES, for every text and script -/
theorem leases_contract (H : Type) (enc : TypeId × Value → H) (W : World) (base : Nat) (args : Array Value) (ds gs : List (DataW H)) (before : List MemPlace)
    (hval : ∀ (j : Nat) t v, Tryz.f3.params[j]? = some t → args[j]? = some v → Value.okWide Tryz.prog W .any base t v)
    (hW : DataW.Whole enc Tryz.prog Tryz.f3.params.toList Rows.leasesSpec.vars false W args.toList ds gs before) (hk : Rows.uptoSmall H (ds ++ gs) = true) :
    Calls Tryz.prog 3 args W fun e W' => ∃ v, e = .returned v ∧ Rows.leasesSpec.post enc Tryz.prog Tryz.f3 false true false false W args v W' := by
  have hW' := hW
  obtain ⟨p, q, hA0, hV, rfl, hfz, hnd⟩ := hW
  have hA : DataW.TrodAll enc Tryz.prog W 0 (fun _ => true) true Tryz.f3.params.toList args.toList ds p := hA0
  rw [Tryz.params3] at hA hval
  obtain ⟨v0, vs0, d0, ds0, p0, q0, hargs, rfl, rfl, h0, r0⟩ := trodAll_cons hA
  obtain ⟨v1, vs1, d1, ds1, p1, q1, hargs1, rfl, rfl, h1, r1⟩ := trodAll_cons r0
  obtain ⟨rfl, rfl, rfl⟩ := trodAll_nil r1
  obtain rfl : args = #[v0, v1] := by cases args; simp_all
  obtain ⟨rfl, rfl⟩ := trodVars_none hV
  have hok1 := hval 1 22 v1 rfl rfl
  obtain ⟨s, rfl, rfl, rfl, hmax⟩ := open_string Tryz.underlying9 (hval 0 9 v0 rfl rfl) h0
  obtain ⟨ao, n, c, os, rfl, hrow, hn, hd⟩ := open_script hok1 h1
  clear hA0
  simp only [List.append_nil] at hW' hk
  have hbk : Rows.uptoBulkAll [DataW.lit (H := H) (.string s.data.toList), d1] ≤ 1048576 := of_decide_eq_true hk
  have hn2 : n ≤ 1048576 := by
    rcases hd with h | ⟨e, sp, hd, he⟩
    · omega
    · rw [hd] at hbk
      simp only [Rows.uptoBulkAll, Rows.uptoBulk] at hbk
      have := bulk_len e
      omega
  have hlt1 : ∀ x ∈ p1, x.block < W.heap.size := fun x hx => hW'.lt x (by simp [hx])
  refine (leases_any s os ao n c W hrow hn hmax (by omega)).mono fun e W' ⟨he, hb⟩ => ?_
  subst he
  refine ⟨_, rfl, _, _, _, [], [] ++ (p1 ++ []), [], hW', ?_, ?_, rfl, hb.frame _, fun h => by cases h⟩
  · exact trodAll_cons_mk (shut_bool Tryz.underlying4 _) trodAll_mk0
  · exact trodAll_cons_mk (shut_string Tryz.underlying9 hmax) (trodAll_cons_mk (Below.trod laidOutL (by kernel_rfl) (of_decide_eq_true (by kernel_rfl)) h1 hb hlt1) trodAll_mk0)

set_option maxRecDepth 100000 in
theorem leases_lifted (os : Os) (started : os.Started) (H : Type) (enc : TypeId × Value → H) (F : Stop.Interp) :
    ReturnsInHanded {} Tryz.checked os 3 .any ((Rows.OpenSpec.upto Rows.leasesSpec).pre6 enc Tryz.prog Tryz.f3 Rows.leasesUptoRow.domain false) (((Rows.OpenSpec.upto Rows.leasesSpec).at F).post enc Tryz.prog Tryz.f3 false true false false) := by
  refine returnsInHanded_of_cond (C := Tryz.checked) (s := Rows.OpenSpec.upto Rows.leasesSpec) (k := Rows.uptoSmall) rfl ownL started (by kernel_rfl) Tryz.func3
    (OpenSpec.witness (enc := enc) (C := Tryz.checked) (s := Rows.OpenSpec.upto Rows.leasesSpec) (k := Rows.uptoSmall) rfl false ⟨#[], #[.string .empty, .slice none 0 0], []⟩ 8 (by kernel_rfl) (by kernel_rfl) (by kernel_rfl)
      (x := ([.lit (.string []), .nil], [], [])) (by kernel_rfl) rfl (by kernel_rfl)) ?_
  intro W base args ds gs before hval hW _ hk _
  exact leases_contract H enc W base args ds gs before hval hW hk
end Lw

theorem leases_upto_said : Rows.LeasesUptoSaid :=
  OpenClaim.holds_of_cond 3 Tryz.f3 rfl rfl rfl rfl rfl rfl rfl ⟨rfl, rfl, rfl, rfl, rfl⟩ rfl rfl rfl rfl rfl (by kernel_rfl) Tryz.func3 (by kernel_rfl)
    (of_decide_eq_true (by kernel_rfl)) (by unfold Func.isWrapper; first | (rw [if_pos (by decide +kernel)]; kernel_rfl) | (rw [if_neg (by decide +kernel)]; exact ⟨rfl, rfl⟩))
    (fun os started H enc _ F => Lw.leases_lifted os started H enc F)
#print axioms leases_upto_said
end Go.Proofs.YtmmmjpkhnbfnbaaGreat
