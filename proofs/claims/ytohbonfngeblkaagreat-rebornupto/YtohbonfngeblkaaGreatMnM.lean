import Derived.Test.YtohbonfngeblkaaGreatMnL
namespace Go.Proofs.YtohbonfngeblkaaGreat
open Go.RowKit
namespace Lw
open Co
def stL (l : List Wtr) (w : Wtr) : Bool := l.any (isCliW w.client)
def kf (l ws : List Wtr) (i : Nat) : Nat := ((ws.take i).filter (stL l)).length
theorem kf_yes {l ws ex : List Wtr} (h : l = ws.filter (stL l) ++ ex) {i : Nat} {w : Wtr} (hi : ws[i]? = some w) (hs : stL l w = true) : l[kf l ws i]? = some w ∧ kf l ws (i + 1) = kf l ws i + 1 := by
  obtain ⟨hk, e⟩ := List.getElem?_eq_some_iff.1 hi
  have h1 : ws.filter (stL l) = (ws.take i).filter (stL l) ++ w :: (ws.drop (i + 1)).filter (stL l) := by
    have := congrArg (List.filter (stL l)) (split_at hi)
    rw [this, List.filter_append, List.filter_cons, if_pos hs]
  refine ⟨?_, ?_⟩
  · have h2 : ∀ m : List Wtr, m = ws.filter (stL l) ++ ex → m[kf l ws i]? = some w := by
      intro m hm
      rw [hm, h1, List.append_assoc]
      unfold kf
      rw [List.getElem?_append_right (Nat.le_refl _)]
      simp
    exact h2 l h
  · unfold kf
    rw [List.take_succ_eq_append_getElem hk, e, List.filter_append, List.length_append]
    simp [hs]
theorem kf_no {l ws : List Wtr} {i : Nat} {w : Wtr} (hi : ws[i]? = some w) (hs : stL l w = false) : kf l ws (i + 1) = kf l ws i := by
  obtain ⟨hk, e⟩ := List.getElem?_eq_some_iff.1 hi
  unfold kf
  rw [List.take_succ_eq_append_getElem hk, e, List.filter_append, List.length_append]
  simp [hs]
theorem kf_le {l ws ex : List Wtr} (h : l = ws.filter (stL l) ++ ex) (i : Nat) : kf l ws i ≤ l.length := by
  have h1 : kf l ws i ≤ (ws.filter (stL l)).length := ((List.take_sublist _ _).filter _).length_le
  have h2 := congrArg List.length h
  rw [List.length_append] at h2
  omega
theorem kf_mem {l ws ex : List Wtr} (h : l = ws.filter (stL l) ++ ex) {i j : Nat} {v : Wtr} (hj : j < kf l ws i) (hv : l[j]? = some v) : v ∈ (ws.take i).filter (stL l) := by
  have h1 : ws.filter (stL l) = (ws.take i).filter (stL l) ++ (ws.drop i).filter (stL l) := by
    rw [← List.filter_append, List.take_append_drop]
  have h2 : ∀ m : List Wtr, m = ws.filter (stL l) ++ ex → m[j]? = some v → v ∈ (ws.take i).filter (stL l) := by
    intro m hm hm2
    rw [hm, h1, List.append_assoc, List.getElem?_append_left hj] at hm2
    exact List.mem_of_getElem? hm2
  exact h2 l h hv
theorem kf_end {l ws ex : List Wtr} (h : l = ws.filter (stL l) ++ ex) {n : Nat} (hn : ws.length = n) : kf l ws n + ex.length = l.length ∧ l[kf l ws n]? = ex[0]? := by
  have h0 : kf l ws n = (ws.filter (stL l)).length := by unfold kf; rw [List.take_of_length_le (by omega)]
  have h2 := congrArg List.length h
  rw [List.length_append] at h2
  refine ⟨by omega, ?_⟩
  have h3 : ∀ m : List Wtr, m = ws.filter (stL l) ++ ex → m[kf l ws n]? = ex[0]? := by
    intro m hm
    rw [hm, h0, List.getElem?_append_right (Nat.le_refl _)]
    simp
  exact h3 l h
structure FairL (ws wt : List Wtr) (st : List Srv) (kd A : Int) (xx : List Wtr) : Prop where
  ex : wt = ws.filter (stL wt) ++ xx
  end' : xx = [] ∨ (kd = 1 ∧ ∃ nm, xx = [⟨A, nm⟩])
  gone : ∀ i w, ws[i]? = some w → stL wt w = false → (kd = 3 ∧ A = w.client) ∨ (holdL w.client st ≠ 0 ∧ ∀ v ∈ (ws.take i).filter (stL wt), (v.pool.toList == w.pool.toList) = false)
set_option maxRecDepth 20000 in
set_option maxHeartbeats 8000000 in
theorem gFair (b : Int) (po : Option Addr) (n1 pc : Nat) (so : Option Addr) (n2 sc : Nat) (wo : Option Addr) (n3 wc : Nat) (qo : Option Addr) (n4 tc : Nat) (bg bk : Bool) (B : Int) (PO : Option Addr) (N1 PC : Nat) (SO : Option Addr) (N2 SC : Nat) (WO : Option Addr) (N3 WC : Nat) (QO : Option Addr) (N4 TC : Nat) (BG BK : Bool) (kd A P : Int) (ws wt : List Wtr) (st : List Srv) (ex : List Wtr) (w : World) (hf : FairL ws wt st kd A ex) (hr3 : RowAt w (.slice wo n3 wc) n3 (flatW ws)) (hn3 : ws.length = n3) (hq3 : n3 ≤ 1099511627776)
    (hR3 : RowAt w (.slice WO N3 WC) N3 (flatW wt)) (hN3 : wt.length = N3) (hQ3 : N3 ≤ 1099511627776) (hR2 : RowAt w (.slice SO N2 SC) N2 (flatV st)) (hN2 : st.length = N2) (hQ2 : N2 ≤ 1099511627776) :
    Calls Tryz.prog 12 #[.agg #[.int .i64 b, .slice po n1 pc, .slice so n2 sc, .slice wo n3 wc, .slice qo n4 tc, .bool bg, .bool bk], .agg #[.int .i64 B, .slice PO N1 PC, .slice SO N2 SC, .slice WO N3 WC, .slice QO N4 TC, .bool BG, .bool BK], .agg #[.int .i64 kd, .int .i64 A, .int .i64 P]] w fun e w' => e = .returned (.bool true) ∧ Below w.heap.size w w' := by
  obtain ⟨W, hW⟩ : ∃ W, W = ((w.alloc (.cells #[.int .i64 b, .slice po n1 pc, .slice so n2 sc, .slice wo n3 wc, .slice qo n4 tc, .bool bg, .bool bk] 33)).alloc (.cells #[.int .i64 B, .slice PO N1 PC, .slice SO N2 SC, .slice WO N3 WC, .slice QO N4 TC, .bool BG, .bool BK] 33)).alloc (.cells #[.int .i64 kd, .int .i64 A, .int .i64 P] 39) := ⟨_, rfl⟩
  have hbW : Below w.heap.size w W := by rw [hW]; exact nx_trans (nx_trans (nx_alloc _ _) (nx_alloc _ _)) (nx_alloc _ _)
  have HW : Hid (W = ((w.alloc (.cells #[.int .i64 b, .slice po n1 pc, .slice so n2 sc, .slice wo n3 wc, .slice qo n4 tc, .bool bg, .bool bk] 33)).alloc (.cells #[.int .i64 B, .slice PO N1 PC, .slice SO N2 SC, .slice WO N3 WC, .slice QO N4 TC, .bool BG, .bool BK] 33)).alloc (.cells #[.int .i64 kd, .int .i64 A, .int .i64 P] 39) ∧ W.heap[w.heap.size]? = some (.cells #[.int .i64 b, .slice po n1 pc, .slice so n2 sc, .slice wo n3 wc, .slice qo n4 tc, .bool bg, .bool bk] 33) ∧ W.heap[w.heap.size + 1]? = some (.cells #[.int .i64 B, .slice PO N1 PC, .slice SO N2 SC, .slice WO N3 WC, .slice QO N4 TC, .bool BG, .bool BK] 33) ∧ W.heap[w.heap.size + 2]? = some (.cells #[.int .i64 kd, .int .i64 A, .int .i64 P] 39) ∧ Below w.heap.size w W) := by
    refine ⟨hW, ?_, ?_, ?_, hbW⟩
    · rw [hW]; exact (heap_alloc_lt _ _ (by simp; omega)).trans ((heap_alloc_lt _ _ (by simp)).trans (heap_alloc_at _ _ rfl))
    · rw [hW]; exact (heap_alloc_lt _ _ (by simp)).trans (heap_alloc_at _ _ (by simp))
    · rw [hW]; exact heap_alloc_at _ _ (by simp)
  have HF := hideIt hf
  have HR : Hid (RowAt W (.slice wo n3 wc) n3 (flatW ws) ∧ RowAt W (.slice WO N3 WC) N3 (flatW wt) ∧ RowAt W (.slice SO N2 SC) N2 (flatV st)) := ⟨hr3.nx hbW, hR3.nx hbW, hR2.nx hbW⟩
  have HN : Hid (ws.length = n3 ∧ wt.length = N3 ∧ st.length = N2) := ⟨hn3, hN3, hN2⟩
  have hsz : w.heap.size + 2 < W.heap.size := (Array.getElem?_eq_some_iff.1 HW.out.2.2.2.1).1
  clear hf hr3 hR3 hR2 hn3 hN3 hN2 hW hbW
  go_enter Tryz.func12, Tryz.ntmps12
  go_wp2_with fail
  go_loopw [7, 8] (fun q i wr => ∃ (k : Nat) (m : Nat), k ≤ n3 ∧ i = .int .i64 k ∧ q = .int .i64 m ∧ m ≤ k ∧ m ≤ N3 ∧ Hid (m = kf wt ws k) ∧ Hid (Below W.heap.size W wr)) (fun _ i _ => n3 - (intOf i).toNat)
  case atStart =>
    refine ⟨0, 0, Nat.zero_le _, rfl, rfl, Nat.le_refl _, Nat.zero_le _, ?_, ?_⟩
    · show 0 = kf wt ws 0
      simp [kf]
    · show Below _ _ _
      rw [← HW.out.1]
      exact Below.refl _ _
  case round =>
    obtain ⟨k, m, hk, rfl, rfl, hmk, hmN, HM, HB⟩ := hrel
    obtain ⟨a0, a1, a2, a3, a4, a5, a6⟩ := gblk7 (gblk HW.out.2.1 HB.out)
    obtain ⟨t0, t1, t2, t3, t4, t5, t6⟩ := gblk7 (gblk HW.out.2.2.1 HB.out)
    obtain ⟨o0, o1, o2⟩ := gblk3 (gblk HW.out.2.2.2.1 HB.out)
    by_cases hlt : k < n3
    · obtain ⟨⟨x0, x1⟩, hp⟩ : ∃ p, ws[k]? = some p := ⟨_, List.getElem?_eq_getElem (by rw [HN.out.1]; exact hlt)⟩
      obtain ⟨bl, off, hao, hbl, c0, c1⟩ := wt_at (HR.out.1.nx HB.out) hp
      subst hao
      simp only at c0 c1
      have hlti : (k : Int) < (n3 : Int) := by omega
      obtain ⟨V, hV⟩ : ∃ V, V = wr.alloc (.cells #[.int .i64 x0, .string x1] 61) := ⟨_, rfl⟩
      have HV : Hid (V = wr.alloc (.cells #[.int .i64 x0, .string x1] 61) ∧ V.heap[wr.heap.size]? = some (.cells #[.int .i64 x0, .string x1] 61) ∧ Below W.heap.size W V) := ⟨hV, by rw [hV]; exact heap_alloc_at _ _ rfl, by rw [hV]; exact nx_trans HB.out (nx_alloc _ _)⟩
      have HP := hideIt hp
      clear hp hV
      go_upto_region 6 with fail
      rw [← HV.out.1]
      have HB1 : Hid (Below W.heap.size W V) := HV.out.2.2
      clear a0 a1 a2 a3 a4 a5 a6 t0 t1 t2 t3 t4 t5 t6 o0 o1 o2 c0 c1
      obtain ⟨a0, a1, a2, a3, a4, a5, a6⟩ := gblk7 (gblk HW.out.2.1 HB1.out)
      obtain ⟨t0, t1, t2, t3, t4, t5, t6⟩ := gblk7 (gblk HW.out.2.2.1 HB1.out)
      obtain ⟨o0, o1, o2⟩ := gblk3 (gblk HW.out.2.2.2.1 HB1.out)
      obtain ⟨v0, v1⟩ := gblk2 HV.out.2.1
      cases hst : stL wt ⟨x0, x1⟩ with
      | true =>
        obtain ⟨h1, h2⟩ := kf_yes HF.out.ex HP.out hst
        rw [← HM.out] at h1 h2
        have hmlt : m < N3 := by
          have := (List.getElem?_eq_some_iff.1 h1).1
          rw [HN.out.2.1] at this
          exact this
        obtain ⟨bt, ft, hat, hbt, d0, d1⟩ := wt_at (HR.out.2.1.nx HB1.out) h1
        subst hat
        simp only at d0 d1
        have hmi : (m : Int) < (N3 : Int) := by omega
        have HK : Hid (m + 1 = kf wt ws (k + 1)) := h2.symm
        clear h1 h2 hst
        go_quiet (fail)
        go_wp2_with fail
        go_roundw
        case rel => exact ⟨k + 1, m + 1, by omega, by go_num, by go_num, by omega, by omega, HK.out, below_drewN HB1.out _⟩
        case measure => simp [intOf]; omega
      | false =>
        have HK : Hid (m = kf wt ws (k + 1)) := HM.out.trans (kf_no HP.out hst).symm
        have HG := hideIt (HF.out.gone k _ HP.out hst)
        have hcl : ∀ y ∈ wt, (y.client == x0) = false := fun y hy => bool_ne (fun h => by
          have : stL wt ⟨x0, x1⟩ = true := List.any_eq_true.2 ⟨y, hy, h⟩
          rw [hst] at this
          simp at this)
        have HCL := hideIt hcl
        clear hst hcl
        go_cut [37] (fun v wx => v = .bool false ∧ ∃ wy, Hid (Below W.heap.size W wy ∧ wy.heap[wr.heap.size]? = some (.cells #[.int .i64 x0, .string x1] 61)) ∧ wy = wx)
        case first =>
          by_cases hmlt : m < N3
          · obtain ⟨⟨y0, y1⟩, hy⟩ : ∃ p, wt[m]? = some p := ⟨_, List.getElem?_eq_getElem (by rw [HN.out.2.1]; exact hmlt)⟩
            obtain ⟨bt, ft, hat, hbt, d0, d1⟩ := wt_at (HR.out.2.1.nx HB1.out) hy
            subst hat
            simp only at d0 d1
            have hne : (y0 == x0) = false := HCL.out _ (List.mem_of_getElem? hy)
            have hmi : (m : Int) < (N3 : Int) := by omega
            clear hy
            go_quiet (fail)
            go_wp2_with fail
            go_meet
            exact ⟨rfl, _, ⟨below_drewN HB1.out _, HV.out.2.1⟩, rfl⟩
          · have hmi : ¬ (m : Int) < (N3 : Int) := by omega
            go_quiet (fail)
            go_wp2_with fail
            go_meet
            exact ⟨rfl, _, ⟨below_drewN HB1.out _, HV.out.2.1⟩, rfl⟩
        case rest =>
          obtain ⟨rfl, wy, HY, rfl⟩ := hcut
          have HB2 : Hid (Below W.heap.size W wy) := HY.out.1
          clear a0 a1 a2 a3 a4 a5 a6 t0 t1 t2 t3 t4 t5 t6 o0 o1 o2 v0 v1
          obtain ⟨a0, a1, a2, a3, a4, a5, a6⟩ := gblk7 (gblk HW.out.2.1 HB2.out)
          obtain ⟨t0, t1, t2, t3, t4, t5, t6⟩ := gblk7 (gblk HW.out.2.2.1 HB2.out)
          obtain ⟨o0, o1, o2⟩ := gblk3 (gblk HW.out.2.2.2.1 HB2.out)
          obtain ⟨v0, v1⟩ := gblk2 HY.out.2
          have HHD := hideIt (fun u (hu : Below W.heap.size W u) => gHolds B PO N1 PC SO N2 SC WO N3 WC QO N4 TC BG BK x0 st u (HR.out.2.2.nx hu) HN.out.2.2 (by unfold maxLen; omega))
          cases h3 : (kd == 3 && A == x0) with
          | true =>
            obtain ⟨h4, h5⟩ := Bool.and_eq_true_iff.1 h3
            clear h3
            go_wp2_with fail
            go_roundw
            case rel => exact ⟨k + 1, m, by omega, by go_num, rfl, by omega, hmN, HK.out, HB2.out⟩
            case measure => simp [intOf]; omega
          | false =>
            have HO : Hid (holdL x0 st ≠ 0 ∧ ∀ v ∈ (ws.take k).filter (stL wt), (v.pool.toList == x1.toList) = false) := by
              rcases HG.out with ⟨h4, h5⟩ | h
              · have h5' : A = x0 := h5
                rw [h4, h5'] at h3
                simp at h3
              · exact h
            obtain ⟨hd, hhd⟩ : ∃ q, holdL x0 st = q := ⟨_, rfl⟩
            have hd0 : (hd == 0) = false := by rw [← hhd]; exact beq_eq_false_iff_ne.2 HO.out.1
            rw [hhd] at HHD
            go_upto_region 8 with fail
            go_cut [49] (fun v wx => v = .bool false ∧ wy = wx)
            case first =>
              cases h4 : (kd == 3) with
              | true =>
                have h5 : (A == x0) = false := by rw [h4, Bool.true_and] at h3; exact h3
                clear h3
                go_wp2_with fail
                go_meet
                exact ⟨rfl, rfl⟩
              | false =>
                clear h3
                go_wp2_with fail
                go_meet
                exact ⟨rfl, rfl⟩
            case rest =>
              obtain ⟨rfl, rfl⟩ := hcut
              clear h3 hhd
              go_wp2_with fail
              refine (HHD.out _ HB2.out).mono ?_
              rintro e w3 ⟨rfl, hb3⟩
              have HB3 : Hid (Below W.heap.size W w3) := nx_trans HB2.out hb3
              have HY3 : Hid (w3.heap[wr.heap.size]? = some (.cells #[.int .i64 x0, .string x1] 61)) := gblk HY.out.2 hb3
              clear a0 a1 a2 a3 a4 a5 a6 t0 t1 t2 t3 t4 t5 t6 o0 o1 o2 v0 v1 hb3
              go_wp2_with fail
              go_loopw [11] (fun i wq => ∃ j : Nat, j ≤ m ∧ i = .int .i64 j ∧ Hid (Below w3.heap.size w3 wq)) (fun i _ => m - (intOf i).toNat)
              case atStart => exact ⟨0, Nat.zero_le _, rfl, Below.refl _ _⟩
              case round =>
                obtain ⟨j, hj, rfl, HB4⟩ := hrel
                have HB5 : Hid (Below W.heap.size W wr) := nx_trans HB3.out HB4.out
                by_cases hjm : j < m
                · obtain ⟨⟨y0, y1⟩, hy⟩ : ∃ p, wt[j]? = some p := ⟨_, List.getElem?_eq_getElem (by rw [HN.out.2.1]; omega)⟩
                  obtain ⟨bt, ft, hat, hbt, d0, d1⟩ := wt_at (HR.out.2.1.nx HB5.out) hy
                  have hne : (y1.toList == x1.toList) = false := HO.out.2 _ (kf_mem HF.out.ex (by rw [← HM.out]; exact hjm) hy)
                  subst hat
                  simp only at d0 d1
                  have hji : (j : Int) < (m : Int) := by omega
                  have hjN : (j : Int) < (N3 : Int) := by omega
                  have t3 := (gblk7 (gblk HW.out.2.2.1 HB5.out)).2.2.2.1
                  have v1 := (gblk2 (gblk HY3.out HB4.out)).2
                  clear hy
                  go_wp2_with fail
                  go_quiet (fail)
                  go_wp2_with fail
                  go_roundw
                  case rel => exact ⟨j + 1, by omega, by go_num, below_drewN HB4.out _⟩
                  case measure => simp [intOf]; omega
                · have hji : ¬ (j : Int) < (m : Int) := by omega
                  go_wp2_with fail
                  go_roundw
                  case rel => exact ⟨k + 1, m, by omega, by go_num, rfl, by omega, hmN, HK.out, HB5.out⟩
                  case measure => simp [intOf]; omega
    · have hke : k = n3 := by omega
      subst hke
      obtain ⟨h1, h2⟩ := kf_end HF.out.ex HN.out.1
      rw [← HM.out, HN.out.2.1] at h1
      rw [← HM.out] at h2
      rcases HF.out.end' with he | ⟨hkd, nm, he⟩
      · rw [he] at h1
        have hmN' : m = N3 := by simpa using h1
        subst hmN'
        clear h1 h2
        go_wp2_with fail
        go_quiet (fail)
        go_wp2_with fail
        go_ret
        exact ⟨rfl, below_drewN (nx_trans HW.out.2.2.2.2 HB.out) _⟩
      · rw [he] at h1 h2
        obtain ⟨bt, ft, hat, hbt, d0, d1⟩ := wt_at (HR.out.2.1.nx HB.out) h2
        subst hat
        subst hkd
        simp only at d0 d1
        have hmN' : (m : Int) + 1 = (N3 : Int) := by simp at h1; omega
        have hm1 : ((m : Int) == (N3 : Int)) = false := beq_eq_false_iff_ne.2 (by omega)
        have hm2 : (m : Int) < (N3 : Int) := by omega
        have hm3 : IntKind.i64.wrap ((m : Int) + 1) = (N3 : Int) := by rw [IntWalk.i64_in _ (by omega)]; exact hmN'
        clear h1 h2 he
        go_wp2_with fail
        go_quiet (fail)
        go_wp2_with fail
        go_ret
        exact ⟨rfl, below_drewN (nx_trans HW.out.2.2.2.2 HB.out) _⟩
end Lw
end Go.Proofs.YtohbonfngeblkaaGreat
namespace Go.Proofs.YtohbonfngeblkaaGreat
open Go.RowKit
namespace Lw
open Co
structure SetL (b : Int) (ps : List Pl) (ss : List Srv) (ws : List Wtr) : Prop where
  s : ∀ x ∈ ss, (x.client == 0) = true → surG b ps ss x = false
  t : ∀ y ∈ ws, ∃ k x, ps.findIdx? (isNameP y.pool) = some k ∧ ps[k]? = some x ∧ ss.any (isIdle y.pool false) = false ∧ (cntG (isPoolW y.pool) ws : Int) ≤ x.wt ∧ (decide ((cntG (isPoolV y.pool) ss : Int) < x.sz) = false ∨ (decide ((ss.length : Int) < b) = false ∧ (((ss.length : Int) == b) = false ∨ ss.any (isIdle ⟨#[]⟩ true) = false)))
theorem SetL.of {S : Sta} {op : Int} (h : Good S op) : SetL S.bud S.pools S.srv S.wts := by
  refine ⟨fun x hx h0 => by rw [surG_eq]; exact h.fine.sur x hx (eq_of_beq h0), fun y hy => ?_⟩
  obtain ⟨x, h1, h2⟩ := h.wts y hy
  have hst := (first_none _ _).1 h.still y hy
  have hk : ∃ k, S.pools.findIdx? (isNameP y.pool) = some k := by
    cases hf : S.pools.findIdx? (isNameP y.pool) with
    | none => rw [gfidx_no hf] at h1; simp at h1
    | some k => exact ⟨k, rfl⟩
  obtain ⟨k, hk⟩ := hk
  obtain ⟨x', hx1, hx2⟩ := gfidx_at hk
  rw [h1] at hx2
  obtain rfl := Option.some.inj hx2
  unfold rLent at hst
  rw [h1] at hst
  simp only at hst
  have hany : ∀ (p : Srv → Bool), S.srv.findIdx? p = none → S.srv.any p = false := fun p hp => List.any_eq_false.2 (fun z hz => by
    rw [List.findIdx?_eq_none_iff] at hp
    rw [hp z hz]; simp)
  cases hi : S.srv.findIdx? (isIdle y.pool false) with
  | some j => rw [hi] at hst; simp at hst
  | none =>
    rw [hi] at hst
    simp only at hst
    refine ⟨k, x, hk, hx1, hany _ hi, h2, ?_⟩
    by_cases hc : x.sz ≤ (cntG (isPoolV y.pool) S.srv : Int) ∨ S.bud < (S.srv.length : Int)
    · rcases hc with hc | hc
      · left; exact decide_eq_false (by omega)
      · right
        exact ⟨decide_eq_false (by omega), .inl (beq_eq_false_iff_ne.2 (by omega))⟩
    · rw [if_neg hc] at hst
      right
      unfold rRoom at hst
      by_cases hl : (S.srv.length : Int) < S.bud
      · rw [if_pos hl] at hst; simp at hst
      · refine ⟨decide_eq_false hl, .inr ?_⟩
        rw [if_neg hl] at hst
        cases hj : S.srv.findIdx? (isIdle ⟨#[]⟩ true) with
        | some j => rw [hj] at hst; simp at hst
        | none => exact hany _ hj
set_option maxRecDepth 20000 in
set_option maxHeartbeats 8000000 in
theorem gSettled (b : Int) (po : Option Addr) (n1 pc : Nat) (so : Option Addr) (n2 sc : Nat) (wo : Option Addr) (n3 wc : Nat) (qo : Option Addr) (n4 tc : Nat) (bg bk : Bool) (ps : List Pl) (ss : List Srv) (ws : List Wtr) (w : World) (hf : SetL b ps ss ws) (hr1 : RowAt w (.slice po n1 pc) n1 (flatP ps)) (hn1 : ps.length = n1) (hq1 : n1 ≤ 1099511627776) (hr2 : RowAt w (.slice so n2 sc) n2 (flatV ss)) (hn2 : ss.length = n2) (hq2 : n2 ≤ 1099511627776) (hr3 : RowAt w (.slice wo n3 wc) n3 (flatW ws)) (hn3 : ws.length = n3) (hq3 : n3 ≤ 1099511627776) :
    Calls Tryz.prog 13 #[.agg #[.int .i64 b, .slice po n1 pc, .slice so n2 sc, .slice wo n3 wc, .slice qo n4 tc, .bool bg, .bool bk]] w fun e w' => e = .returned (.bool true) ∧ Below w.heap.size w w' := by
  obtain ⟨W, hW⟩ : ∃ W, W = w.alloc (.cells #[.int .i64 b, .slice po n1 pc, .slice so n2 sc, .slice wo n3 wc, .slice qo n4 tc, .bool bg, .bool bk] 33) := ⟨_, rfl⟩
  have hbW : Below w.heap.size w W := by rw [hW]; exact nx_alloc _ _
  have HW : Hid (W = w.alloc (.cells #[.int .i64 b, .slice po n1 pc, .slice so n2 sc, .slice wo n3 wc, .slice qo n4 tc, .bool bg, .bool bk] 33) ∧ W.heap[w.heap.size]? = some (.cells #[.int .i64 b, .slice po n1 pc, .slice so n2 sc, .slice wo n3 wc, .slice qo n4 tc, .bool bg, .bool bk] 33) ∧ Below w.heap.size w W) := ⟨hW, by rw [hW]; exact heap_alloc_at _ _ rfl, hbW⟩
  have HF := hideIt hf
  have HR : Hid (RowAt W (.slice po n1 pc) n1 (flatP ps) ∧ RowAt W (.slice so n2 sc) n2 (flatV ss) ∧ RowAt W (.slice wo n3 wc) n3 (flatW ws)) := ⟨hr1.nx hbW, hr2.nx hbW, hr3.nx hbW⟩
  have HN : Hid (ps.length = n1 ∧ ss.length = n2 ∧ ws.length = n3) := ⟨hn1, hn2, hn3⟩
  have HSU := hideIt (fun u i x0 x1 x2 x3 (hu : Below W.heap.size W u) => gSurplus b po n1 pc so n2 sc wo n3 wc qo n4 tc bg bk ps ss u i x0 x1 x2 x3 (HR.out.1.nx hu) hn1 hq1 (HR.out.2.1.nx hu) hn2 hq2)
  have HID := hideIt (fun u pool all (hu : Below W.heap.size W u) => gIdle b po n1 pc so n2 sc wo n3 wc qo n4 tc bg bk pool all ss u (HR.out.2.1.nx hu) hn2 (by unfold maxLen; omega))
  have HCO := hideIt (fun u pool (hu : Below W.heap.size W u) => gCount b po n1 pc so n2 sc wo n3 wc qo n4 tc bg bk pool ss u (HR.out.2.1.nx hu) hn2 (by unfold maxLen; omega))
  have HAT := hideIt (fun u name (hu : Below W.heap.size W u) => gAt b po n1 pc name ps u (HR.out.1.nx hu) hn1 (by unfold maxLen; omega))
  clear hf hr1 hr2 hr3 hn1 hn2 hn3 hW hbW
  go_enter Tryz.func13, Tryz.ntmps13
  go_wp2_with fail
  go_loopw [3] (fun i wr => ∃ k : Nat, k ≤ n2 ∧ i = .int .i64 k ∧ Hid (Below W.heap.size W wr)) (fun i _ => n2 - (intOf i).toNat)
  case atStart =>
    refine ⟨0, Nat.zero_le _, rfl, ?_⟩
    show Below _ _ _
    rw [← HW.out.1]
    exact Below.refl _ _
  case round =>
    obtain ⟨k, hk, rfl, HB⟩ := hrel
    obtain ⟨a0, a1, a2, a3, a4, a5, a6⟩ := gblk7 (gblk HW.out.2.1 HB.out)
    by_cases hlt : k < n2
    · obtain ⟨⟨x0, x1, x2, x3⟩, hp⟩ : ∃ p, ss[k]? = some p := ⟨_, List.getElem?_eq_getElem (by rw [HN.out.2.1]; exact hlt)⟩
      have HC := hideIt (HSU.out wr k x0 x1 x2 x3 HB.out hp)
      have HS := hideIt (HF.out.s _ (List.mem_of_getElem? hp))
      have HP := hideIt hp
      have hlti : (k : Int) < (n2 : Int) := by omega
      clear hp
      go_wp2_with fail
      refine HC.out.mono ?_
      rintro e w1 ⟨rfl, hb1⟩
      have HB1 : Hid (Below W.heap.size W w1) := nx_trans HB.out hb1
      clear hb1 a0 a1 a2 a3 a4 a5 a6
      obtain ⟨a0, a1, a2, a3, a4, a5, a6⟩ := gblk7 (gblk HW.out.2.1 HB1.out)
      obtain ⟨bl, off, hao, hbl, c0, c1, c2, c3⟩ := sv_at (HR.out.2.1.nx HB1.out) HP.out
      subst hao
      simp only at c0 c1 c2 c3
      cases hu : surG b ps ss ⟨x0, x1, x2, x3⟩ with
      | true =>
        have h3 : (x3 == 0) = false := bool_ne (fun h => by have := HS.out h; rw [hu] at this; simp at this)
        clear hu
        go_wp2_with fail
        go_roundw
        case rel => exact ⟨k + 1, by omega, by go_num, HB1.out⟩
        case measure => simp [intOf]; omega
      | false =>
        clear hu
        go_wp2_with fail
        go_roundw
        case rel => exact ⟨k + 1, by omega, by go_num, HB1.out⟩
        case measure => simp [intOf]; omega
    · have hlti : ¬ (k : Int) < (n2 : Int) := by omega
      go_wp2_with fail
      refine (HID.out wr ⟨#[]⟩ true HB.out).mono ?_
      rintro e w1 ⟨rfl, hb1⟩
      have HB1 : Hid (Below W.heap.size W w1) := nx_trans HB.out hb1
      obtain ⟨sp, hsp⟩ : ∃ sp, ss.any (isIdle ⟨#[]⟩ true) = sp := ⟨_, rfl⟩
      rw [hsp]
      have HSP := hideIt hsp
      clear hb1 a0 a1 a2 a3 a4 a5 a6 hsp
      go_wp2_with fail
      go_loopw [6] (fun i wr => ∃ k : Nat, k ≤ n3 ∧ i = .int .i64 k ∧ Hid (Below W.heap.size W wr)) (fun i _ => n3 - (intOf i).toNat)
      case atStart => exact ⟨0, Nat.zero_le _, rfl, HB1.out⟩
      case round =>
        clear HB hlti hlt hk
        obtain ⟨q, hq, rfl, HB⟩ := hrel
        obtain ⟨a0, a1, a2, a3, a4, a5, a6⟩ := gblk7 (gblk HW.out.2.1 HB.out)
        by_cases hqt : q < n3
        · obtain ⟨⟨x0, x1⟩, hp⟩ : ∃ p, ws[q]? = some p := ⟨_, List.getElem?_eq_getElem (by rw [HN.out.2.2]; exact hqt)⟩
          obtain ⟨bl, off, hao, hbl, c0, c1⟩ := wt_at (HR.out.2.2.nx HB.out) hp
          have HRW := hideIt HR.out.2.2
          subst hao
          simp only at c0 c1
          have hlti : (q : Int) < (n3 : Int) := by omega
          obtain ⟨p, ⟨y0, y1, y2, y3⟩, hpi, hpp, hidl, hcw, hroom⟩ := HF.out.t _ (List.mem_of_getElem? hp)
          simp only at hcw hroom hpi hidl
          obtain ⟨V, hV⟩ : ∃ V, V = wr.alloc (.cells #[.int .i64 x0, .string x1] 61) := ⟨_, rfl⟩
          have HV : Hid (V = wr.alloc (.cells #[.int .i64 x0, .string x1] 61) ∧ V.heap[wr.heap.size]? = some (.cells #[.int .i64 x0, .string x1] 61) ∧ Below W.heap.size W V) := ⟨hV, by rw [hV]; exact heap_alloc_at _ _ rfl, by rw [hV]; exact nx_trans HB.out (nx_alloc _ _)⟩
          have HA1 := hideIt (HAT.out V x1 HV.out.2.2)
          rw [hpi] at HA1
          have hpn : (p : Int) < (n1 : Int) := by
            have := (List.getElem?_eq_some_iff.1 hpp).1
            rw [HN.out.1] at this
            omega
          have HPP := hideIt hpp
          have HROOM := hideIt hroom
          have HIDL := hideIt hidl
          have HCW := hideIt hcw
          clear hp hV hpi hpp hroom hidl hcw
          go_upto_region 12 with fail
          rw [← HV.out.1]
          clear a0 a1 a2 a3 a4 a5 a6 c0 c1
          obtain ⟨a0, a1, a2, a3, a4, a5, a6⟩ := gblk7 (gblk HW.out.2.1 HV.out.2.2)
          obtain ⟨v0, v1⟩ := gblk2 HV.out.2.1
          unfold optI at HA1
          go_wp2_with fail
          refine HA1.out.mono ?_
          rintro e w2 ⟨rfl, hb2⟩
          have HB2 : Hid (Below W.heap.size W w2) := nx_trans HV.out.2.2 hb2
          have HY2 : Hid (w2.heap[wr.heap.size]? = some (.cells #[.int .i64 x0, .string x1] 61)) := gblk HV.out.2.1 hb2
          have hnp : ¬ (p : Int) < 0 := by omega
          clear a0 a1 a2 a3 a4 a5 a6 v0 v1 hb2
          obtain ⟨a0, a1, a2, a3, a4, a5, a6⟩ := gblk7 (gblk HW.out.2.1 HB2.out)
          obtain ⟨v0, v1⟩ := gblk2 HY2.out
          go_wp2_with fail
          refine (HCO.out w2 x1 HB2.out).mono ?_
          rintro e w3 ⟨rfl, hb3⟩
          have HB3 : Hid (Below W.heap.size W w3) := nx_trans HB2.out hb3
          have HY3 : Hid (w3.heap[wr.heap.size]? = some (.cells #[.int .i64 x0, .string x1] 61)) := gblk HY2.out hb3
          obtain ⟨ct, hct⟩ : ∃ ct : Nat, cntG (isPoolV x1) ss = ct := ⟨_, rfl⟩
          rw [hct]
          rw [hct] at HROOM
          clear a0 a1 a2 a3 a4 a5 a6 v0 v1 hb3 hct
          obtain ⟨a0, a1, a2, a3, a4, a5, a6⟩ := gblk7 (gblk HW.out.2.1 HB3.out)
          obtain ⟨v0, v1⟩ := gblk2 HY3.out
          go_wp2_with fail
          refine (HID.out w3 x1 false HB3.out).mono ?_
          rintro e w4 ⟨rfl, hb4⟩
          rw [HIDL.out]
          have HB4 : Hid (Below W.heap.size W w4) := nx_trans HB3.out hb4
          have HY4 : Hid (w4.heap[wr.heap.size]? = some (.cells #[.int .i64 x0, .string x1] 61)) := gblk HY3.out hb4
          clear a0 a1 a2 a3 a4 a5 a6 v0 v1 hb4
          obtain ⟨a0, a1, a2, a3, a4, a5, a6⟩ := gblk7 (gblk HW.out.2.1 HB4.out)
          obtain ⟨pb, pf, hpo, hpb, g0, g1, g2, g3⟩ := pool_at (HR.out.1.nx HB4.out) HPP.out
          subst hpo
          simp only at g0 g1 g2 g3
          go_upto_region 17 with fail
          go_cut [11] (fun v wx => ∃ r : Bool, v = .bool r ∧ Hid (decide ((ct : Int) < y1) = false ∨ r = false) ∧ w4 = wx)
          case first =>
            have hnl : ss.length = n2 := HN.out.2.1
            have HR2 : Hid (decide ((ct : Int) < y1) = false ∨ (decide ((n2 : Int) < b) = false ∧ (((n2 : Int) == b) = false ∨ sp = false))) := by
              rw [← hnl, ← HSP.out]; exact HROOM.out
            clear hnl
            cases h1 : decide ((n2 : Int) < b) with
            | true =>
              have HX : Hid (decide ((ct : Int) < y1) = false ∨ true = false) := by
                rcases HR2.out with h | ⟨h, _⟩
                · exact .inl h
                · rw [h1] at h; simp at h
              go_wp2_with fail
              go_meet
              exact ⟨true, rfl, HX.out, rfl⟩
            | false =>
              cases h2 : ((n2 : Int) == b) with
              | true =>
                have HX : Hid (decide ((ct : Int) < y1) = false ∨ sp = false) := by
                  rcases HR2.out with h | ⟨_, h | h⟩
                  · exact .inl h
                  · rw [h2] at h; simp at h
                  · exact .inr h
                go_wp2_with fail
                go_meet
                exact ⟨sp, rfl, HX.out, rfl⟩
              | false =>
                go_wp2_with fail
                go_meet
                exact ⟨false, rfl, .inr rfl, rfl⟩
          case rest =>
            obtain ⟨r, rfl, HRR, rfl⟩ := hcut
            go_upto_region 18 with fail
            go_cut [96] (fun v wx => v = .bool false ∧ w4 = wx)
            case first =>
              cases h1 : decide ((ct : Int) < y1) with
              | true =>
                have h2 : r = false := by
                  rcases HRR.out with h | h
                  · rw [h1] at h; simp at h
                  · exact h
                subst h2
                go_wp2_with fail
                go_meet
                exact ⟨rfl, rfl⟩
              | false =>
                go_wp2_with fail
                go_meet
                exact ⟨rfl, rfl⟩
            case rest =>
              obtain ⟨rfl, rfl⟩ := hcut
              go_wp2_with fail
              clear a0 a1 a2 a3 a4 a5 a6 g0 g1 g2 g3
              go_loopw [12, 13] (fun cv i wq => ∃ j m : Nat, j ≤ n3 ∧ m ≤ j ∧ i = .int .i64 j ∧ cv = .int .i64 m ∧ Hid (cntG (isPoolW x1) (ws.take j) = m) ∧ Hid (Below w4.heap.size w4 wq)) (fun _ i _ => n3 - (intOf i).toNat)
              case atStart => exact ⟨0, 0, Nat.zero_le _, Nat.le_refl _, rfl, rfl, by show cntG _ _ = 0; simp [cntG], Below.refl _ _⟩
              case round =>
                obtain ⟨j, m, hj, hm, rfl, rfl, HT, HB5⟩ := hrel
                have HB6 : Hid (Below W.heap.size W wr) := nx_trans HB4.out HB5.out
                have a3 := (gblk7 (gblk HW.out.2.1 HB6.out)).2.2.2.1
                by_cases hjt : j < n3
                · obtain ⟨⟨z0, z1⟩, hz⟩ : ∃ p, ws[j]? = some p := ⟨_, List.getElem?_eq_getElem (by rw [HN.out.2.2]; exact hjt)⟩
                  obtain ⟨bl', off', hao', hbl', d0, d1⟩ := wt_at (HRW.out.nx HB6.out) hz
                  obtain ⟨rfl, rfl⟩ : bl = bl' ∧ off = off' := by simpa using hao'
                  simp only at d0 d1
                  have v1 := (gblk2 (gblk HY4.out HB5.out)).2
                  have hji : (j : Int) < (n3 : Int) := by omega
                  have hnx := cntG_next (p := isPoolW x1) hz
                  rw [HT.out] at hnx
                  cases hw : (z1.toList == x1.toList) with
                  | true =>
                    have HNX : Hid (cntG (isPoolW x1) (ws.take (j + 1)) = m + 1) := by
                      have hw' : isPoolW x1 ⟨z0, z1⟩ = true := hw
                      show _ = _
                      rw [hnx, if_pos hw']
                    clear hz hnx hao'
                    go_wp2_with fail
                    go_quiet (fail)
                    go_wp2_with fail
                    go_roundw
                    case rel => exact ⟨j + 1, m + 1, by omega, by omega, by go_num, by go_num, HNX.out, below_drewN HB5.out _⟩
                    case measure => simp [intOf]; omega
                  | false =>
                    have HNX : Hid (cntG (isPoolW x1) (ws.take (j + 1)) = m) := by
                      show _ = _
                      rw [hnx, if_neg (fun h => by rw [show isPoolW x1 _ = (z1.toList == x1.toList) from rfl, hw] at h; simp at h)]
                      rfl
                    clear hz hnx hao'
                    go_wp2_with fail
                    go_quiet (fail)
                    go_wp2_with fail
                    go_roundw
                    case rel => exact ⟨j + 1, m, by omega, by omega, by go_num, rfl, HNX.out, below_drewN HB5.out _⟩
                    case measure => simp [intOf]; omega
                · have hji : ¬ (j : Int) < (n3 : Int) := by omega
                  have hmw : ¬ y2 < (m : Int) := by
                    have h1 := HT.out
                    rw [List.take_of_length_le (by rw [HN.out.2.2]; omega)] at h1
                    have h2 := HCW.out
                    rw [h1] at h2
                    omega
                  obtain ⟨pb', pf', hpo', hpb', g0, g1, g2, g3⟩ := pool_at (HR.out.1.nx HB6.out) HPP.out
                  obtain ⟨rfl, rfl⟩ : pb = pb' ∧ pf = pf' := by simpa using hpo'
                  simp only at g0 g1 g2 g3
                  have a1 := (gblk7 (gblk HW.out.2.1 HB6.out)).2.1
                  clear hpo'
                  go_wp2_with fail
                  go_roundw
                  case rel => exact ⟨q + 1, by omega, by go_num, HB6.out⟩
                  case measure => simp [intOf]; omega
        · have hqi : ¬ (q : Int) < (n3 : Int) := by omega
          go_wp2_with fail
          go_ret
          exact ⟨rfl, nx_trans HW.out.2.2 HB.out⟩
end Lw
end Go.Proofs.YtohbonfngeblkaaGreat
