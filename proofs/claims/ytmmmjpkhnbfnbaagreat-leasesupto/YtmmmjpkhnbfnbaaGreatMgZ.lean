import Derived.Test.YtmmmjpkhnbfnbaaGreatMgY
namespace Go.Proofs.YtmmmjpkhnbfnbaaGreat
open Go.RowKit
namespace Lw
open Co

/-- what comes out: a World of lists of its own, from B on -/
def GaveO (B : Nat) (w w' : World) (bud : Int) (ps : List Pl) (ss : List Srv) (ws : List Wtr) (ts : List Stp) (bg bk : Bool) (nx hb : Int) (hs : List Pl) (e : Ending) : Prop :=
  ∃ po' pc' so' sc' wo' wc' qo' tc' ho' hc', e = .returned (.agg #[.int .i64 bud, .slice po' ps.length pc', .slice so' ss.length sc', .slice wo' ws.length wc', .slice qo' ts.length tc', .bool bg, .bool bk, .int .i64 nx, .int .i64 hb, .slice ho' hs.length hc']) ∧
    w'.ownsRow B 70 4 (.slice po' ps.length pc') ps.length (flatP ps) ∧ w'.ownsRow B 74 4 (.slice so' ss.length sc') ss.length (flatV ss) ∧ w'.ownsRow B 76 2 (.slice wo' ws.length wc') ws.length (flatW ws) ∧ w'.ownsRow B 72 3 (.slice qo' ts.length tc') ts.length (flatT ts) ∧ w'.ownsRow B 70 4 (.slice ho' hs.length hc') hs.length (flatP hs) ∧ Below w.heap.size w w'
def firstR (bud : Int) (ps : List Pl) (ss : List Srv) (ws : List Wtr) (nx : Int) : Nat → List Wtr → Option (List Srv × List Wtr × Int)
  | _, [] => none
  | i, c :: r => match lentR bud ps ss ws nx i c with
    | some y => some y
    | none => firstR bud ps ss ws nx (i + 1) r
def servedR (bud : Int) (ps : List Pl) : Nat → List Srv → List Wtr → Int → List Srv × List Wtr × Int
  | 0, ss, ws, nx => (ss, ws, nx)
  | f + 1, ss, ws, nx => match firstR bud ps ss ws nx 0 ws with
    | none => (ss, ws, nx)
    | some y => servedR bud ps f y.1 y.2.1 y.2.2
theorem lentR_some {bud : Int} {ps : List Pl} {ss : List Srv} {ws : List Wtr} {nx : Int} {i : Nat} {c : Wtr} {y : List Srv × List Wtr × Int} (h : lentR bud ps ss ws nx i c = some y) : y.2.1 = ws.eraseIdx i ∧ y.1.length ≤ ss.length + 1 ∧ nx ≤ y.2.2 ∧ y.2.2 ≤ nx + 1 := by
  unfold lentR at h
  split at h
  · simp at h
  · split at h
    · simp only [Option.some.injEq] at h
      subst h
      exact ⟨rfl, by rw [List.length_modify]; omega, by simp, by simp; omega⟩
    · split at h
      · simp at h
      · split at h
        · simp only [Option.some.injEq] at h
          subst h
          exact ⟨rfl, by simp, by simp; omega, by simp⟩
        · split at h
          · simp at h
          · simp only [Option.some.injEq] at h
            subst h
            rename_i k _
            have := List.length_eraseIdx_le ss k
            exact ⟨rfl, by simp; omega, by simp; omega, by simp⟩

set_option maxRecDepth 20000 in
set_option maxHeartbeats 8000000 in
theorem served_any (B : Nat) (f : Nat) : ∀ (bud : Int) (po : Option Addr) (n1 pc : Nat) (so : Option Addr) (n2 sc : Nat) (wo : Option Addr) (n3 wc : Nat) (qo : Option Addr) (n4 tc : Nat) (bg bk : Bool) (nx hb : Int) (ho : Option Addr) (n5 hc : Nat) (ps : List Pl) (ss : List Srv) (ws : List Wtr) (ts : List Stp) (hs : List Pl) (w : World), B ≤ w.heap.size → w.ownsRow B 70 4 (.slice po n1 pc) n1 (flatP ps) → ps.length = n1 → n1 ≤ 1099511627775 → w.ownsRow B 74 4 (.slice so n2 sc) n2 (flatV ss) → ss.length = n2 → n2 ≤ 1099511627775 → w.ownsRow B 76 2 (.slice wo n3 wc) n3 (flatW ws) → ws.length = n3 → n3 ≤ 1099511627775 → w.ownsRow B 72 3 (.slice qo n4 tc) n4 (flatT ts) → ts.length = n4 → n4 ≤ 1099511627775 → w.ownsRow B 70 4 (.slice ho n5 hc) n5 (flatP hs) → hs.length = n5 → n5 ≤ 1099511627775 → ws.length ≤ f → n2 + f ≤ 1099511627775 → 0 ≤ nx → nx + f ≤ 4611686018427387904 →
    Calls Tryz.prog 52 #[.agg #[.int .i64 bud, .slice po n1 pc, .slice so n2 sc, .slice wo n3 wc, .slice qo n4 tc, .bool bg, .bool bk, .int .i64 nx, .int .i64 hb, .slice ho n5 hc]] w fun e w' => GaveO B w w' bud ps (servedR bud ps f ss ws nx).1 (servedR bud ps f ss ws nx).2.1 ts bg bk (servedR bud ps f ss ws nx).2.2 hb hs e := by
  induction f with
  | zero =>
    intro bud po n1 pc so n2 sc wo n3 wc qo n4 tc bg bk nx hb ho n5 hc ps ss ws ts hs w hB ho1 hn1 hq1 ho2 hn2 hq2 ho3 hn3 hq3 ho4 hn4 hq4 ho5 hn5 hq5 hf hsf hx0 hx1
    obtain ⟨W, hW⟩ : ∃ W, W = (w.alloc (bWd (.int .i64 bud) (.slice po n1 pc) (.slice so n2 sc) (.slice wo n3 wc) (.slice qo n4 tc) (.bool bg) (.bool bk) (.int .i64 nx) (.int .i64 hb) (.slice ho n5 hc))).alloc zW := ⟨_, rfl⟩
    have hbW : Below w.heap.size w W := by rw [hW]; exact nx_trans (nx_alloc _ _) (nx_alloc _ _)
    have HW : Hid (W = (w.alloc (bWd (.int .i64 bud) (.slice po n1 pc) (.slice so n2 sc) (.slice wo n3 wc) (.slice qo n4 tc) (.bool bg) (.bool bk) (.int .i64 nx) (.int .i64 hb) (.slice ho n5 hc))).alloc zW ∧ W.heap[w.heap.size]? = some (bWd (.int .i64 bud) (.slice po n1 pc) (.slice so n2 sc) (.slice wo n3 wc) (.slice qo n4 tc) (.bool bg) (.bool bk) (.int .i64 nx) (.int .i64 hb) (.slice ho n5 hc)) ∧ W.heap[w.heap.size + 1]? = some zW ∧ Below w.heap.size w W) := by
      refine ⟨hW, ?_, ?_, hbW⟩
      · rw [hW]; exact (heap_alloc_lt _ _ (by simp)).trans (heap_alloc_at _ _ rfl)
      · rw [hW]; exact heap_alloc_at _ _ (by simp)
    have HO : Hid (W.ownsRow B 70 4 (.slice po n1 pc) n1 (flatP ps) ∧ W.ownsRow B 74 4 (.slice so n2 sc) n2 (flatV ss) ∧ W.ownsRow B 76 2 (.slice wo n3 wc) n3 (flatW ws) ∧ W.ownsRow B 72 3 (.slice qo n4 tc) n4 (flatT ts) ∧ W.ownsRow B 70 4 (.slice ho n5 hc) n5 (flatP hs)) := ⟨own_below ho1 hbW, own_below ho2 hbW, own_below ho3 hbW, own_below ho4 hbW, own_below ho5 hbW⟩
    have HLN : Hid (ps.length = n1 ∧ ss.length = n2 ∧ ws.length = n3 ∧ ts.length = n4 ∧ hs.length = n5) := ⟨hn1, hn2, hn3, hn4, hn5⟩
    have hf' : n3 ≤ 0 := by rw [← hn3]; exact hf
    clear ho1 hn1 ho2 hn2 ho3 hn3 ho4 hn4 ho5 hn5 hf hW hbW
    go_enter Tryz.func52, Tryz.ntmps52
    go_wp2_with fail
    rw [← HW.out.1]
    go_loopw [3] (fun ix wr => ∃ k : Nat, k ≤ n3 ∧ ix = .int .i64 k ∧ Hid (Below W.heap.size W wr)) (fun ix _ => n3 - (intOf ix).toNat)
    case atStart => exact ⟨0, Nat.zero_le _, rfl, Below.refl _ _⟩
    case round =>
      obtain ⟨k, hk, rfl, HBR⟩ := hrel
      obtain ⟨a0, a1, a2, a3, a4, a5, a6, a7, a8, a9, az⟩ := blk10 (blk_nx HW.out.2.1 HBR.out)
      obtain ⟨r0, r1, r2, r3, r4, r5, r6, r7, r8, r9, rz⟩ := blk10 (blk_nx HW.out.2.2.1 HBR.out)
      have hlt : ¬ k < n3 := by omega
      have HOR : Hid (wr.ownsRow B 70 4 (.slice po n1 pc) n1 (flatP ps) ∧ wr.ownsRow B 74 4 (.slice so n2 sc) n2 (flatV ss) ∧ wr.ownsRow B 76 2 (.slice wo n3 wc) n3 (flatW ws) ∧ wr.ownsRow B 72 3 (.slice qo n4 tc) n4 (flatT ts) ∧ wr.ownsRow B 70 4 (.slice ho n5 hc) n5 (flatP hs)) := ⟨own_below HO.out.1 HBR.out, own_below HO.out.2.1 HBR.out, own_below HO.out.2.2.1 HBR.out, own_below HO.out.2.2.2.1 HBR.out, own_below HO.out.2.2.2.2 HBR.out⟩
      have HFS : Hid (servedR bud ps 0 ss ws nx = (ss, ws, nx)) := rfl
      have HFW : Hid ((((((((((((wr.setCell ⟨w.heap.size + 1, 0, none⟩ (.int .i64 bud)).setCell ⟨w.heap.size + 1, 1, none⟩ (.slice po n1 pc)).setCell ⟨w.heap.size + 1, 2, none⟩ (.slice so n2 sc)).setCell ⟨w.heap.size + 1, 3, none⟩ (.slice wo n3 wc)).setCell ⟨w.heap.size + 1, 4, none⟩ (.slice qo n4 tc)).setCell ⟨w.heap.size + 1, 5, none⟩ (.bool bg)).setCell ⟨w.heap.size + 1, 6, none⟩ (.bool bk)).setCell ⟨w.heap.size + 1, 7, none⟩ (.int .i64 nx)).setCell ⟨w.heap.size + 1, 8, none⟩ (.int .i64 hb)).setCell ⟨w.heap.size + 1, 9, none⟩ (.slice ho n5 hc))).heap[w.heap.size + 1]? = some (bWd (.int .i64 bud) (.slice po n1 pc) (.slice so n2 sc) (.slice wo n3 wc) (.slice qo n4 tc) (.bool bg) (.bool bk) (.int .i64 nx) (.int .i64 hb) (.slice ho n5 hc))) := st10_heap (blk_nx HW.out.2.2.1 HBR.out) _ _ _ _ _ _ _ _ _ _
      have HFB : Hid (Below w.heap.size w (((((((((((wr.setCell ⟨w.heap.size + 1, 0, none⟩ (.int .i64 bud)).setCell ⟨w.heap.size + 1, 1, none⟩ (.slice po n1 pc)).setCell ⟨w.heap.size + 1, 2, none⟩ (.slice so n2 sc)).setCell ⟨w.heap.size + 1, 3, none⟩ (.slice wo n3 wc)).setCell ⟨w.heap.size + 1, 4, none⟩ (.slice qo n4 tc)).setCell ⟨w.heap.size + 1, 5, none⟩ (.bool bg)).setCell ⟨w.heap.size + 1, 6, none⟩ (.bool bk)).setCell ⟨w.heap.size + 1, 7, none⟩ (.int .i64 nx)).setCell ⟨w.heap.size + 1, 8, none⟩ (.int .i64 hb)).setCell ⟨w.heap.size + 1, 9, none⟩ (.slice ho n5 hc)))) := st10_bel (nx_trans HW.out.2.2.2 HBR.out) (by omega) _ _ _ _ _ _ _ _ _ _
      have HFO := hideIt (And.intro (own_st10 HOR.out.1 (own_ne10 HOR.out.1 (blk_nx HW.out.2.2.1 HBR.out) (by decide)) (.int .i64 bud) (.slice po n1 pc) (.slice so n2 sc) (.slice wo n3 wc) (.slice qo n4 tc) (.bool bg) (.bool bk) (.int .i64 nx) (.int .i64 hb) (.slice ho n5 hc)) (And.intro (own_st10 HOR.out.2.1 (own_ne10 HOR.out.2.1 (blk_nx HW.out.2.2.1 HBR.out) (by decide)) (.int .i64 bud) (.slice po n1 pc) (.slice so n2 sc) (.slice wo n3 wc) (.slice qo n4 tc) (.bool bg) (.bool bk) (.int .i64 nx) (.int .i64 hb) (.slice ho n5 hc)) (And.intro (own_st10 HOR.out.2.2.1 (own_ne10 HOR.out.2.2.1 (blk_nx HW.out.2.2.1 HBR.out) (by decide)) (.int .i64 bud) (.slice po n1 pc) (.slice so n2 sc) (.slice wo n3 wc) (.slice qo n4 tc) (.bool bg) (.bool bk) (.int .i64 nx) (.int .i64 hb) (.slice ho n5 hc)) (And.intro (own_st10 HOR.out.2.2.2.1 (own_ne10 HOR.out.2.2.2.1 (blk_nx HW.out.2.2.1 HBR.out) (by decide)) (.int .i64 bud) (.slice po n1 pc) (.slice so n2 sc) (.slice wo n3 wc) (.slice qo n4 tc) (.bool bg) (.bool bk) (.int .i64 nx) (.int .i64 hb) (.slice ho n5 hc)) (own_st10 HOR.out.2.2.2.2 (own_ne10 HOR.out.2.2.2.2 (blk_nx HW.out.2.2.1 HBR.out) (by decide)) (.int .i64 bud) (.slice po n1 pc) (.slice so n2 sc) (.slice wo n3 wc) (.slice qo n4 tc) (.bool bg) (.bool bk) (.int .i64 nx) (.int .i64 hb) (.slice ho n5 hc))))))
      unfold st10 at HFO
      go_wp2_with fail
      obtain ⟨FW, hFW⟩ : ∃ FW, ((((((((((wr.setCell ⟨w.heap.size + 1, 0, none⟩ (.int .i64 bud)).setCell ⟨w.heap.size + 1, 1, none⟩ (.slice po n1 pc)).setCell ⟨w.heap.size + 1, 2, none⟩ (.slice so n2 sc)).setCell ⟨w.heap.size + 1, 3, none⟩ (.slice wo n3 wc)).setCell ⟨w.heap.size + 1, 4, none⟩ (.slice qo n4 tc)).setCell ⟨w.heap.size + 1, 5, none⟩ (.bool bg)).setCell ⟨w.heap.size + 1, 6, none⟩ (.bool bk)).setCell ⟨w.heap.size + 1, 7, none⟩ (.int .i64 nx)).setCell ⟨w.heap.size + 1, 8, none⟩ (.int .i64 hb)).setCell ⟨w.heap.size + 1, 9, none⟩ (.slice ho n5 hc)) = FW := ⟨_, rfl⟩
      rw [hFW] at HFW HFB HFO ⊢
      obtain ⟨f0, f1, f2, f3, f4, f5, f6, f7, f8, f9, fz⟩ := blk10 HFW.out
      clear hFW
      refine bodyPost_ret (v := .agg #[.int .i64 bud, .slice po n1 pc, .slice so n2 sc, .slice wo n3 wc, .slice qo n4 tc, .bool bg, .bool bk, .int .i64 nx, .int .i64 hb, .slice ho n5 hc]) (by simp [results, Tryz.results52, go_sem, f0, f1, f2, f3, f4, f5, f6, f7, f8, f9]) rfl ?_
      rw [HFS.out]
      refine ⟨po, pc, so, sc, wo, wc, qo, tc, ho, hc, ?_, ?_, ?_, ?_, ?_, ?_, HFB.out⟩
      · simp only [HLN.out.1, HLN.out.2.1, HLN.out.2.2.1, HLN.out.2.2.2.1, HLN.out.2.2.2.2]
      · rw [HLN.out.1]; exact HFO.out.1
      · simp only [HLN.out.2.1]; exact HFO.out.2.1
      · simp only [HLN.out.2.2.1]; exact HFO.out.2.2.1
      · rw [HLN.out.2.2.2.1]; exact HFO.out.2.2.2.1
      · rw [HLN.out.2.2.2.2]; exact HFO.out.2.2.2.2

  | succ f ih =>
    intro bud po n1 pc so n2 sc wo n3 wc qo n4 tc bg bk nx hb ho n5 hc ps ss ws ts hs w hB ho1 hn1 hq1 ho2 hn2 hq2 ho3 hn3 hq3 ho4 hn4 hq4 ho5 hn5 hq5 hf hsf hx0 hx1
    have IH := hideIt ih
    clear ih
    obtain ⟨W, hW⟩ : ∃ W, W = (w.alloc (bWd (.int .i64 bud) (.slice po n1 pc) (.slice so n2 sc) (.slice wo n3 wc) (.slice qo n4 tc) (.bool bg) (.bool bk) (.int .i64 nx) (.int .i64 hb) (.slice ho n5 hc))).alloc zW := ⟨_, rfl⟩
    have hbW : Below w.heap.size w W := by rw [hW]; exact nx_trans (nx_alloc _ _) (nx_alloc _ _)
    have HW : Hid (W = (w.alloc (bWd (.int .i64 bud) (.slice po n1 pc) (.slice so n2 sc) (.slice wo n3 wc) (.slice qo n4 tc) (.bool bg) (.bool bk) (.int .i64 nx) (.int .i64 hb) (.slice ho n5 hc))).alloc zW ∧ W.heap[w.heap.size]? = some (bWd (.int .i64 bud) (.slice po n1 pc) (.slice so n2 sc) (.slice wo n3 wc) (.slice qo n4 tc) (.bool bg) (.bool bk) (.int .i64 nx) (.int .i64 hb) (.slice ho n5 hc)) ∧ W.heap[w.heap.size + 1]? = some zW ∧ Below w.heap.size w W) := by
      refine ⟨hW, ?_, ?_, hbW⟩
      · rw [hW]; exact (heap_alloc_lt _ _ (by simp)).trans (heap_alloc_at _ _ rfl)
      · rw [hW]; exact heap_alloc_at _ _ (by simp)
    have HO : Hid (W.ownsRow B 70 4 (.slice po n1 pc) n1 (flatP ps) ∧ W.ownsRow B 74 4 (.slice so n2 sc) n2 (flatV ss) ∧ W.ownsRow B 76 2 (.slice wo n3 wc) n3 (flatW ws) ∧ W.ownsRow B 72 3 (.slice qo n4 tc) n4 (flatT ts) ∧ W.ownsRow B 70 4 (.slice ho n5 hc) n5 (flatP hs)) := ⟨own_below ho1 hbW, own_below ho2 hbW, own_below ho3 hbW, own_below ho4 hbW, own_below ho5 hbW⟩
    have HLN : Hid (ps.length = n1 ∧ ss.length = n2 ∧ ws.length = n3 ∧ ts.length = n4 ∧ hs.length = n5) := ⟨hn1, hn2, hn3, hn4, hn5⟩

    have HLT := hideIt (fun (u : World) (hb' : Below W.heap.size W u) (i : Nat) (cc : Int) (cp : ByteArray) (hi : ws[i]? = some ⟨cc, cp⟩) => lent_any bud po n1 pc so n2 sc wo n3 wc qo n4 tc bg bk nx hb ho n5 hc ps ss ws ts hs u i cc cp (own_row (own_below (own_below ho1 hbW) hb')) hn1 (by omega) (own_row (own_below (own_below ho2 hbW) hb')) hn2 (by omega) (own_row (own_below (own_below ho3 hbW) hb')) hn3 (by omega) (own_row (own_below (own_below ho4 hbW) hb')) hn4 (by omega) (own_row (own_below (own_below ho5 hbW) hb')) hn5 (by omega) hi (by omega) hx0 (by omega))
    have hf' : n3 ≤ f + 1 := by rw [← hn3]; exact hf
    clear ho1 hn1 ho2 hn2 ho3 hn3 ho4 hn4 ho5 hn5 hf hW hbW
    go_enter Tryz.func52, Tryz.ntmps52
    go_wp2_with fail
    rw [← HW.out.1]
    go_loopw [3] (fun ix wr => ∃ k : Nat, k ≤ n3 ∧ ix = .int .i64 k ∧ Hid (firstR bud ps ss ws nx k (ws.drop k) = firstR bud ps ss ws nx 0 ws) ∧ Hid (Below W.heap.size W wr)) (fun ix _ => n3 - (intOf ix).toNat)
    case atStart => exact ⟨0, Nat.zero_le _, rfl, rfl, Below.refl _ _⟩
    case round =>
      obtain ⟨k, hk, rfl, HT, HBR⟩ := hrel
      obtain ⟨a0, a1, a2, a3, a4, a5, a6, a7, a8, a9, az⟩ := blk10 (blk_nx HW.out.2.1 HBR.out)
      obtain ⟨r0, r1, r2, r3, r4, r5, r6, r7, r8, r9, rz⟩ := blk10 (blk_nx HW.out.2.2.1 HBR.out)
      by_cases hlt : k < n3
      · obtain ⟨⟨cc, cp⟩, hx⟩ : ∃ x, ws[k]? = some x := ⟨_, List.getElem?_eq_getElem (by rw [HLN.out.2.2.1]; exact hlt)⟩
        have HDR : Hid (firstR bud ps ss ws nx 0 ws = match lentR bud ps ss ws nx k ⟨cc, cp⟩ with | some y => some y | none => firstR bud ps ss ws nx (k + 1) (ws.drop (k + 1))) := by
          obtain ⟨hk', e⟩ := List.getElem?_eq_some_iff.1 hx
          show _ = _
          rw [← HT.out, List.drop_eq_getElem_cons hk', e]
          rfl
        have HLE := hideIt (HLT.out wr HBR.out k cc cp hx)
        have hlti : (k : Int) < (n3 : Int) := by omega
        clear hx
        go_wp2_with fail
        refine HLE.out.mono ?_
        intro e w1 hl
        cases hr : lentR bud ps ss ws nx k ⟨cc, cp⟩ with
        | none =>
          rw [hr] at hl HDR
          obtain ⟨rfl, hb1⟩ := hl
          have HB1 := hideIt (nx_trans HBR.out hb1)
          clear hb1 hr
          go_wp2_with fail
          go_roundw
          case rel => exact ⟨k + 1, by omega, by go_num, HDR.out.symm, nx_trans HB1.out (nx_alloc _ _)⟩
          case measure => simp [intOf]; omega
        | some y =>
          obtain ⟨y1, y2, y3⟩ := y
          rw [hr] at hl HDR
          obtain ⟨q1, q2, q3, q4⟩ := lentR_some hr
          simp only at q1 q2 q3 q4
          obtain ⟨v, rfl, po1, pc1, so1, sc1, wo1, wc1, qo1, tc1, ho1, hc1, hv, o0, o1, o2, o3, o4, hb1⟩ := hl
          simp only [Ending.returned.injEq] at hv
          subst hv
          simp only at o0 o1 o2 o3 o4
          have HB1 := hideIt (nx_trans HBR.out hb1)
          have hy2 : y2.length ≤ f := by
            rw [q1, List.length_eraseIdx_of_lt (by rw [HLN.out.2.2.1]; exact hlt), HLN.out.2.2.1]
            omega
          have hy1 : y1.length ≤ n2 + 1 := by rw [← HLN.out.2.1]; exact q2
          obtain ⟨U1, hU⟩ : ∃ U1, U1 = w1.alloc (bWd (.int .i64 bud) (.slice po1 ps.length pc1) (.slice so1 y1.length sc1) (.slice wo1 y2.length wc1) (.slice qo1 ts.length tc1) (.bool bg) (.bool bk) (.int .i64 y3) (.int .i64 hb) (.slice ho1 hs.length hc1)) := ⟨_, rfl⟩
          have HU : Hid (U1 = w1.alloc (bWd (.int .i64 bud) (.slice po1 ps.length pc1) (.slice so1 y1.length sc1) (.slice wo1 y2.length wc1) (.slice qo1 ts.length tc1) (.bool bg) (.bool bk) (.int .i64 y3) (.int .i64 hb) (.slice ho1 hs.length hc1)) ∧ Below W.heap.size W U1 ∧ U1.heap[w1.heap.size]? = some (bWd (.int .i64 bud) (.slice po1 ps.length pc1) (.slice so1 y1.length sc1) (.slice wo1 y2.length wc1) (.slice qo1 ts.length tc1) (.bool bg) (.bool bk) (.int .i64 y3) (.int .i64 hb) (.slice ho1 hs.length hc1))) := ⟨hU, by rw [hU]; exact nx_trans HB1.out (nx_alloc _ _), by rw [hU]; exact heap_alloc_at _ _ rfl⟩
          have hWB : B ≤ wr.heap.size := Nat.le_trans hB (Nat.le_trans HW.out.2.2.2.size HBR.out.size)
          have HIC := hideIt (IH.out bud po1 ps.length pc1 so1 y1.length sc1 wo1 y2.length wc1 qo1 ts.length tc1 bg bk y3 hb ho1 hs.length hc1 ps y1 y2 ts hs U1 (Nat.le_trans hB (Nat.le_trans HW.out.2.2.2.size HU.out.2.1.size)) (by rw [hU]; exact own_mono (own_below o0 (nx_alloc _ _)) hWB) rfl (by rw [HLN.out.1]; omega) (by rw [hU]; exact own_mono (own_below o1 (nx_alloc _ _)) hWB) rfl (by omega) (by rw [hU]; exact own_mono (own_below o2 (nx_alloc _ _)) hWB) rfl (by omega) (by rw [hU]; exact own_mono (own_below o3 (nx_alloc _ _)) hWB) rfl (by rw [HLN.out.2.2.2.1]; omega) (by rw [hU]; exact own_mono (own_below o4 (nx_alloc _ _)) hWB) rfl (by rw [HLN.out.2.2.2.2]; omega) hy2 (by omega) (by omega) (by omega))
          clear hU o0 o1 o2 o3 o4 hb1 hr a0 a1 a2 a3 a4 a5 a6 a7 a8 a9 az r0 r1 r2 r3 r4 r5 r6 r7 r8 r9 rz q1 q2 q3 q4
          have HFS : Hid (servedR bud ps (f + 1) ss ws nx = servedR bud ps f y1 y2 y3) := by show _ = _; rw [servedR, HDR.out]
          go_upto_region 6 with fail
          rw [← HU.out.1]
          obtain ⟨a0, a1, a2, a3, a4, a5, a6, a7, a8, a9, az⟩ := blk10 HU.out.2.2
          go_wp2_with fail
          refine HIC.out.mono ?_
          obtain ⟨⟨z1, z2, z3⟩, hz⟩ : ∃ z, servedR bud ps f y1 y2 y3 = z := ⟨_, rfl⟩
          rw [hz] at HFS ⊢
          rintro e w2 ⟨po2, pc2, so2, sc2, wo2, wc2, qo2, tc2, ho2, hc2, rfl, o0, o1, o2, o3, o4, hb2⟩
          simp only at o0 o1 o2 o3 o4 ⊢
          have HB2 := hideIt (nx_trans HU.out.2.1 hb2)
          have HO2 := hideIt (And.intro o0 (And.intro o1 (And.intro o2 (And.intro o3 o4))))
          clear o0 o1 o2 o3 o4 hb2 hz a0 a1 a2 a3 a4 a5 a6 a7 a8 a9 az
          obtain ⟨r0, r1, r2, r3, r4, r5, r6, r7, r8, r9, rz⟩ := blk10 (blk_nx HW.out.2.2.1 HB2.out)
          have HFW : Hid ((((((((((((w2.setCell ⟨w.heap.size + 1, 0, none⟩ (.int .i64 bud)).setCell ⟨w.heap.size + 1, 1, none⟩ (.slice po2 ps.length pc2)).setCell ⟨w.heap.size + 1, 2, none⟩ (.slice so2 z1.length sc2)).setCell ⟨w.heap.size + 1, 3, none⟩ (.slice wo2 z2.length wc2)).setCell ⟨w.heap.size + 1, 4, none⟩ (.slice qo2 ts.length tc2)).setCell ⟨w.heap.size + 1, 5, none⟩ (.bool bg)).setCell ⟨w.heap.size + 1, 6, none⟩ (.bool bk)).setCell ⟨w.heap.size + 1, 7, none⟩ (.int .i64 z3)).setCell ⟨w.heap.size + 1, 8, none⟩ (.int .i64 hb)).setCell ⟨w.heap.size + 1, 9, none⟩ (.slice ho2 hs.length hc2))).heap[w.heap.size + 1]? = some (bWd (.int .i64 bud) (.slice po2 ps.length pc2) (.slice so2 z1.length sc2) (.slice wo2 z2.length wc2) (.slice qo2 ts.length tc2) (.bool bg) (.bool bk) (.int .i64 z3) (.int .i64 hb) (.slice ho2 hs.length hc2))) := st10_heap (blk_nx HW.out.2.2.1 HB2.out) _ _ _ _ _ _ _ _ _ _
          have HFB : Hid (Below w.heap.size w (((((((((((w2.setCell ⟨w.heap.size + 1, 0, none⟩ (.int .i64 bud)).setCell ⟨w.heap.size + 1, 1, none⟩ (.slice po2 ps.length pc2)).setCell ⟨w.heap.size + 1, 2, none⟩ (.slice so2 z1.length sc2)).setCell ⟨w.heap.size + 1, 3, none⟩ (.slice wo2 z2.length wc2)).setCell ⟨w.heap.size + 1, 4, none⟩ (.slice qo2 ts.length tc2)).setCell ⟨w.heap.size + 1, 5, none⟩ (.bool bg)).setCell ⟨w.heap.size + 1, 6, none⟩ (.bool bk)).setCell ⟨w.heap.size + 1, 7, none⟩ (.int .i64 z3)).setCell ⟨w.heap.size + 1, 8, none⟩ (.int .i64 hb)).setCell ⟨w.heap.size + 1, 9, none⟩ (.slice ho2 hs.length hc2)))) := st10_bel (nx_trans HW.out.2.2.2 HB2.out) (by omega) _ _ _ _ _ _ _ _ _ _
          have HFO := hideIt (And.intro (own_st10 HO2.out.1 (own_ne10 HO2.out.1 (blk_nx HW.out.2.2.1 HB2.out) (by decide)) (.int .i64 bud) (.slice po2 ps.length pc2) (.slice so2 z1.length sc2) (.slice wo2 z2.length wc2) (.slice qo2 ts.length tc2) (.bool bg) (.bool bk) (.int .i64 z3) (.int .i64 hb) (.slice ho2 hs.length hc2)) (And.intro (own_st10 HO2.out.2.1 (own_ne10 HO2.out.2.1 (blk_nx HW.out.2.2.1 HB2.out) (by decide)) (.int .i64 bud) (.slice po2 ps.length pc2) (.slice so2 z1.length sc2) (.slice wo2 z2.length wc2) (.slice qo2 ts.length tc2) (.bool bg) (.bool bk) (.int .i64 z3) (.int .i64 hb) (.slice ho2 hs.length hc2)) (And.intro (own_st10 HO2.out.2.2.1 (own_ne10 HO2.out.2.2.1 (blk_nx HW.out.2.2.1 HB2.out) (by decide)) (.int .i64 bud) (.slice po2 ps.length pc2) (.slice so2 z1.length sc2) (.slice wo2 z2.length wc2) (.slice qo2 ts.length tc2) (.bool bg) (.bool bk) (.int .i64 z3) (.int .i64 hb) (.slice ho2 hs.length hc2)) (And.intro (own_st10 HO2.out.2.2.2.1 (own_ne10 HO2.out.2.2.2.1 (blk_nx HW.out.2.2.1 HB2.out) (by decide)) (.int .i64 bud) (.slice po2 ps.length pc2) (.slice so2 z1.length sc2) (.slice wo2 z2.length wc2) (.slice qo2 ts.length tc2) (.bool bg) (.bool bk) (.int .i64 z3) (.int .i64 hb) (.slice ho2 hs.length hc2)) (own_st10 HO2.out.2.2.2.2 (own_ne10 HO2.out.2.2.2.2 (blk_nx HW.out.2.2.1 HB2.out) (by decide)) (.int .i64 bud) (.slice po2 ps.length pc2) (.slice so2 z1.length sc2) (.slice wo2 z2.length wc2) (.slice qo2 ts.length tc2) (.bool bg) (.bool bk) (.int .i64 z3) (.int .i64 hb) (.slice ho2 hs.length hc2))))))
          unfold st10 at HFO
          go_wp2_with fail
          obtain ⟨FW, hFW⟩ : ∃ FW, ((((((((((w2.setCell ⟨w.heap.size + 1, 0, none⟩ (.int .i64 bud)).setCell ⟨w.heap.size + 1, 1, none⟩ (.slice po2 ps.length pc2)).setCell ⟨w.heap.size + 1, 2, none⟩ (.slice so2 z1.length sc2)).setCell ⟨w.heap.size + 1, 3, none⟩ (.slice wo2 z2.length wc2)).setCell ⟨w.heap.size + 1, 4, none⟩ (.slice qo2 ts.length tc2)).setCell ⟨w.heap.size + 1, 5, none⟩ (.bool bg)).setCell ⟨w.heap.size + 1, 6, none⟩ (.bool bk)).setCell ⟨w.heap.size + 1, 7, none⟩ (.int .i64 z3)).setCell ⟨w.heap.size + 1, 8, none⟩ (.int .i64 hb)).setCell ⟨w.heap.size + 1, 9, none⟩ (.slice ho2 hs.length hc2)) = FW := ⟨_, rfl⟩
          rw [hFW] at HFW HFB HFO ⊢
          obtain ⟨f0, f1, f2, f3, f4, f5, f6, f7, f8, f9, fz⟩ := blk10 HFW.out
          clear hFW
          refine bodyPost_ret (v := .agg #[.int .i64 bud, .slice po2 ps.length pc2, .slice so2 z1.length sc2, .slice wo2 z2.length wc2, .slice qo2 ts.length tc2, .bool bg, .bool bk, .int .i64 z3, .int .i64 hb, .slice ho2 hs.length hc2]) (by simp [results, Tryz.results52, go_sem, f0, f1, f2, f3, f4, f5, f6, f7, f8, f9]) rfl ?_
          rw [HFS.out]
          exact ⟨po2, pc2, so2, sc2, wo2, wc2, qo2, tc2, ho2, hc2, rfl, HFO.out.1, HFO.out.2.1, HFO.out.2.2.1, HFO.out.2.2.2.1, HFO.out.2.2.2.2, HFB.out⟩

      · have HOR : Hid (wr.ownsRow B 70 4 (.slice po n1 pc) n1 (flatP ps) ∧ wr.ownsRow B 74 4 (.slice so n2 sc) n2 (flatV ss) ∧ wr.ownsRow B 76 2 (.slice wo n3 wc) n3 (flatW ws) ∧ wr.ownsRow B 72 3 (.slice qo n4 tc) n4 (flatT ts) ∧ wr.ownsRow B 70 4 (.slice ho n5 hc) n5 (flatP hs)) := ⟨own_below HO.out.1 HBR.out, own_below HO.out.2.1 HBR.out, own_below HO.out.2.2.1 HBR.out, own_below HO.out.2.2.2.1 HBR.out, own_below HO.out.2.2.2.2 HBR.out⟩
        have HFS : Hid (servedR bud ps (f + 1) ss ws nx = (ss, ws, nx)) := by
          have h := HT.out
          rw [List.drop_of_length_le (by rw [HLN.out.2.2.1]; omega)] at h
          show _ = _
          rw [servedR, ← h]
          rfl
        have HFW : Hid ((((((((((((wr.setCell ⟨w.heap.size + 1, 0, none⟩ (.int .i64 bud)).setCell ⟨w.heap.size + 1, 1, none⟩ (.slice po n1 pc)).setCell ⟨w.heap.size + 1, 2, none⟩ (.slice so n2 sc)).setCell ⟨w.heap.size + 1, 3, none⟩ (.slice wo n3 wc)).setCell ⟨w.heap.size + 1, 4, none⟩ (.slice qo n4 tc)).setCell ⟨w.heap.size + 1, 5, none⟩ (.bool bg)).setCell ⟨w.heap.size + 1, 6, none⟩ (.bool bk)).setCell ⟨w.heap.size + 1, 7, none⟩ (.int .i64 nx)).setCell ⟨w.heap.size + 1, 8, none⟩ (.int .i64 hb)).setCell ⟨w.heap.size + 1, 9, none⟩ (.slice ho n5 hc))).heap[w.heap.size + 1]? = some (bWd (.int .i64 bud) (.slice po n1 pc) (.slice so n2 sc) (.slice wo n3 wc) (.slice qo n4 tc) (.bool bg) (.bool bk) (.int .i64 nx) (.int .i64 hb) (.slice ho n5 hc))) := st10_heap (blk_nx HW.out.2.2.1 HBR.out) _ _ _ _ _ _ _ _ _ _
        have HFB : Hid (Below w.heap.size w (((((((((((wr.setCell ⟨w.heap.size + 1, 0, none⟩ (.int .i64 bud)).setCell ⟨w.heap.size + 1, 1, none⟩ (.slice po n1 pc)).setCell ⟨w.heap.size + 1, 2, none⟩ (.slice so n2 sc)).setCell ⟨w.heap.size + 1, 3, none⟩ (.slice wo n3 wc)).setCell ⟨w.heap.size + 1, 4, none⟩ (.slice qo n4 tc)).setCell ⟨w.heap.size + 1, 5, none⟩ (.bool bg)).setCell ⟨w.heap.size + 1, 6, none⟩ (.bool bk)).setCell ⟨w.heap.size + 1, 7, none⟩ (.int .i64 nx)).setCell ⟨w.heap.size + 1, 8, none⟩ (.int .i64 hb)).setCell ⟨w.heap.size + 1, 9, none⟩ (.slice ho n5 hc)))) := st10_bel (nx_trans HW.out.2.2.2 HBR.out) (by omega) _ _ _ _ _ _ _ _ _ _
        have HFO := hideIt (And.intro (own_st10 HOR.out.1 (own_ne10 HOR.out.1 (blk_nx HW.out.2.2.1 HBR.out) (by decide)) (.int .i64 bud) (.slice po n1 pc) (.slice so n2 sc) (.slice wo n3 wc) (.slice qo n4 tc) (.bool bg) (.bool bk) (.int .i64 nx) (.int .i64 hb) (.slice ho n5 hc)) (And.intro (own_st10 HOR.out.2.1 (own_ne10 HOR.out.2.1 (blk_nx HW.out.2.2.1 HBR.out) (by decide)) (.int .i64 bud) (.slice po n1 pc) (.slice so n2 sc) (.slice wo n3 wc) (.slice qo n4 tc) (.bool bg) (.bool bk) (.int .i64 nx) (.int .i64 hb) (.slice ho n5 hc)) (And.intro (own_st10 HOR.out.2.2.1 (own_ne10 HOR.out.2.2.1 (blk_nx HW.out.2.2.1 HBR.out) (by decide)) (.int .i64 bud) (.slice po n1 pc) (.slice so n2 sc) (.slice wo n3 wc) (.slice qo n4 tc) (.bool bg) (.bool bk) (.int .i64 nx) (.int .i64 hb) (.slice ho n5 hc)) (And.intro (own_st10 HOR.out.2.2.2.1 (own_ne10 HOR.out.2.2.2.1 (blk_nx HW.out.2.2.1 HBR.out) (by decide)) (.int .i64 bud) (.slice po n1 pc) (.slice so n2 sc) (.slice wo n3 wc) (.slice qo n4 tc) (.bool bg) (.bool bk) (.int .i64 nx) (.int .i64 hb) (.slice ho n5 hc)) (own_st10 HOR.out.2.2.2.2 (own_ne10 HOR.out.2.2.2.2 (blk_nx HW.out.2.2.1 HBR.out) (by decide)) (.int .i64 bud) (.slice po n1 pc) (.slice so n2 sc) (.slice wo n3 wc) (.slice qo n4 tc) (.bool bg) (.bool bk) (.int .i64 nx) (.int .i64 hb) (.slice ho n5 hc))))))
        unfold st10 at HFO
        go_wp2_with fail
        obtain ⟨FW, hFW⟩ : ∃ FW, ((((((((((wr.setCell ⟨w.heap.size + 1, 0, none⟩ (.int .i64 bud)).setCell ⟨w.heap.size + 1, 1, none⟩ (.slice po n1 pc)).setCell ⟨w.heap.size + 1, 2, none⟩ (.slice so n2 sc)).setCell ⟨w.heap.size + 1, 3, none⟩ (.slice wo n3 wc)).setCell ⟨w.heap.size + 1, 4, none⟩ (.slice qo n4 tc)).setCell ⟨w.heap.size + 1, 5, none⟩ (.bool bg)).setCell ⟨w.heap.size + 1, 6, none⟩ (.bool bk)).setCell ⟨w.heap.size + 1, 7, none⟩ (.int .i64 nx)).setCell ⟨w.heap.size + 1, 8, none⟩ (.int .i64 hb)).setCell ⟨w.heap.size + 1, 9, none⟩ (.slice ho n5 hc)) = FW := ⟨_, rfl⟩
        rw [hFW] at HFW HFB HFO ⊢
        obtain ⟨f0, f1, f2, f3, f4, f5, f6, f7, f8, f9, fz⟩ := blk10 HFW.out
        clear hFW
        refine bodyPost_ret (v := .agg #[.int .i64 bud, .slice po n1 pc, .slice so n2 sc, .slice wo n3 wc, .slice qo n4 tc, .bool bg, .bool bk, .int .i64 nx, .int .i64 hb, .slice ho n5 hc]) (by simp [results, Tryz.results52, go_sem, f0, f1, f2, f3, f4, f5, f6, f7, f8, f9]) rfl ?_
        rw [HFS.out]
        refine ⟨po, pc, so, sc, wo, wc, qo, tc, ho, hc, ?_, ?_, ?_, ?_, ?_, ?_, HFB.out⟩
        · simp only [HLN.out.1, HLN.out.2.1, HLN.out.2.2.1, HLN.out.2.2.2.1, HLN.out.2.2.2.2]
        · rw [HLN.out.1]; exact HFO.out.1
        · simp only [HLN.out.2.1]; exact HFO.out.2.1
        · simp only [HLN.out.2.2.1]; exact HFO.out.2.2.1
        · rw [HLN.out.2.2.2.1]; exact HFO.out.2.2.2.1
        · rw [HLN.out.2.2.2.2]; exact HFO.out.2.2.2.2

end Lw
end Go.Proofs.YtmmmjpkhnbfnbaaGreat
