import Derived.Test.YtohbonfngeblkaaGreatMrL
namespace Go.Proofs.YtohbonfngeblkaaGreat
open Go.RowKit
namespace Lw
open Co
def stL (l : List Wtr) (w : Wtr) : Bool := l.any (isCliW w.client)
def kf (l ws : List Wtr) (i : Nat) : Nat := ((ws.take i).filter (stL l)).length
theorem kf_yes {l ws ex : List Wtr} (h : l = ws.filter (stL l) ++ ex) {i : Nat} {w : Wtr} (hi : ws[i]? = some w) (hs : stL l w = true) : l[kf l ws i]? = some w ∧ kf l ws (i + 1) = kf l ws i + 1 := by
  obtain ⟨hk, e⟩ := List.getElem?_eq_some_iff.1 hi
  have h1 : ws.filter (stL l) = (ws.take i).filter (stL l) ++ w :: (ws.drop (i + 1)).filter (stL l) := by
    have := congrArg (List.filter (stL l)) (split_at hi)
    rw [this, List.filter_append, List.filter_cons, if_pos hs]
  refine ⟨?_, ?_⟩
  · have h2 : ∀ m : List Wtr, m = ws.filter (stL l) ++ ex → m[kf l ws i]? = some w := by
      intro m hm
      rw [hm, h1, List.append_assoc]
      unfold kf
      rw [List.getElem?_append_right (Nat.le_refl _)]
      simp
    exact h2 l h
  · unfold kf
    rw [List.take_succ_eq_append_getElem hk, e, List.filter_append, List.length_append]
    simp [hs]
theorem kf_no {l ws : List Wtr} {i : Nat} {w : Wtr} (hi : ws[i]? = some w) (hs : stL l w = false) : kf l ws (i + 1) = kf l ws i := by
  obtain ⟨hk, e⟩ := List.getElem?_eq_some_iff.1 hi
  unfold kf
  rw [List.take_succ_eq_append_getElem hk, e, List.filter_append, List.length_append]
  simp [hs]
theorem kf_le {l ws ex : List Wtr} (h : l = ws.filter (stL l) ++ ex) (i : Nat) : kf l ws i ≤ l.length := by
  have h1 : kf l ws i ≤ (ws.filter (stL l)).length := ((List.take_sublist _ _).filter _).length_le
  have h2 := congrArg List.length h
  rw [List.length_append] at h2
  omega
theorem kf_mem {l ws ex : List Wtr} (h : l = ws.filter (stL l) ++ ex) {i j : Nat} {v : Wtr} (hj : j < kf l ws i) (hv : l[j]? = some v) : v ∈ (ws.take i).filter (stL l) := by
  have h1 : ws.filter (stL l) = (ws.take i).filter (stL l) ++ (ws.drop i).filter (stL l) := by
    rw [← List.filter_append, List.take_append_drop]
  have h2 : ∀ m : List Wtr, m = ws.filter (stL l) ++ ex → m[j]? = some v → v ∈ (ws.take i).filter (stL l) := by
    intro m hm hm2
    rw [hm, h1, List.append_assoc, List.getElem?_append_left hj] at hm2
    exact List.mem_of_getElem? hm2
  exact h2 l h hv
theorem kf_end {l ws ex : List Wtr} (h : l = ws.filter (stL l) ++ ex) {n : Nat} (hn : ws.length = n) : kf l ws n + ex.length = l.length ∧ l[kf l ws n]? = ex[0]? := by
  have h0 : kf l ws n = (ws.filter (stL l)).length := by unfold kf; rw [List.take_of_length_le (by omega)]
  have h2 := congrArg List.length h
  rw [List.length_append] at h2
  refine ⟨by omega, ?_⟩
  have h3 : ∀ m : List Wtr, m = ws.filter (stL l) ++ ex → m[kf l ws n]? = ex[0]? := by
    intro m hm
    rw [hm, h0, List.getElem?_append_right (Nat.le_refl _)]
    simp
  exact h3 l h
structure FairL (ws wt : List Wtr) (st : List Srv) (kd A : Int) (xx : List Wtr) : Prop where
  ex : wt = ws.filter (stL wt) ++ xx
  end' : xx = [] ∨ (kd = 1 ∧ ∃ nm, xx = [⟨A, nm⟩])
  gone : ∀ i w, ws[i]? = some w → stL wt w = false → (kd = 3 ∧ A = w.client) ∨ (holdL w.client st ≠ 0 ∧ ∀ v ∈ (ws.take i).filter (stL wt), (v.pool.toList == w.pool.toList) = false)
set_option maxRecDepth 20000 in
set_option maxHeartbeats 8000000 in
theorem gFair (b : Int) (po : Option Addr) (n1 pc : Nat) (so : Option Addr) (n2 sc : Nat) (wo : Option Addr) (n3 wc : Nat) (qo : Option Addr) (n4 tc : Nat) (bg bk : Bool) (B : Int) (PO : Option Addr) (N1 PC : Nat) (SO : Option Addr) (N2 SC : Nat) (WO : Option Addr) (N3 WC : Nat) (QO : Option Addr) (N4 TC : Nat) (BG BK : Bool) (kd A P : Int) (ws wt : List Wtr) (st : List Srv) (ex : List Wtr) (w : World) (hf : FairL ws wt st kd A ex) (hr3 : RowAt w (.slice wo n3 wc) n3 (flatW ws)) (hn3 : ws.length = n3) (hq3 : n3 ≤ 1099511627776)
    (hR3 : RowAt w (.slice WO N3 WC) N3 (flatW wt)) (hN3 : wt.length = N3) (hQ3 : N3 ≤ 1099511627776) (hR2 : RowAt w (.slice SO N2 SC) N2 (flatV st)) (hN2 : st.length = N2) (hQ2 : N2 ≤ 1099511627776) :
    Calls Tryz.prog 12 #[.agg #[.int .i64 b, .slice po n1 pc, .slice so n2 sc, .slice wo n3 wc, .slice qo n4 tc, .bool bg, .bool bk], .agg #[.int .i64 B, .slice PO N1 PC, .slice SO N2 SC, .slice WO N3 WC, .slice QO N4 TC, .bool BG, .bool BK], .agg #[.int .i64 kd, .int .i64 A, .int .i64 P]] w fun e w' => e = .returned (.bool true) ∧ Below w.heap.size w w' := by
  obtain ⟨W, hW⟩ : ∃ W, W = ((w.alloc (.cells #[.int .i64 b, .slice po n1 pc, .slice so n2 sc, .slice wo n3 wc, .slice qo n4 tc, .bool bg, .bool bk] 33)).alloc (.cells #[.int .i64 B, .slice PO N1 PC, .slice SO N2 SC, .slice WO N3 WC, .slice QO N4 TC, .bool BG, .bool BK] 33)).alloc (.cells #[.int .i64 kd, .int .i64 A, .int .i64 P] 39) := ⟨_, rfl⟩
  have hbW : Below w.heap.size w W := by rw [hW]; exact nx_trans (nx_trans (nx_alloc _ _) (nx_alloc _ _)) (nx_alloc _ _)
  have HW : Hid (W = ((w.alloc (.cells #[.int .i64 b, .slice po n1 pc, .slice so n2 sc, .slice wo n3 wc, .slice qo n4 tc, .bool bg, .bool bk] 33)).alloc (.cells #[.int .i64 B, .slice PO N1 PC, .slice SO N2 SC, .slice WO N3 WC, .slice QO N4 TC, .bool BG, .bool BK] 33)).alloc (.cells #[.int .i64 kd, .int .i64 A, .int .i64 P] 39) ∧ W.heap[w.heap.size]? = some (.cells #[.int .i64 b, .slice po n1 pc, .slice so n2 sc, .slice wo n3 wc, .slice qo n4 tc, .bool bg, .bool bk] 33) ∧ W.heap[w.heap.size + 1]? = some (.cells #[.int .i64 B, .slice PO N1 PC, .slice SO N2 SC, .slice WO N3 WC, .slice QO N4 TC, .bool BG, .bool BK] 33) ∧ W.heap[w.heap.size + 2]? = some (.cells #[.int .i64 kd, .int .i64 A, .int .i64 P] 39) ∧ Below w.heap.size w W) := by
    refine ⟨hW, ?_, ?_, ?_, hbW⟩
    · rw [hW]; exact (heap_alloc_lt _ _ (by simp; omega)).trans ((heap_alloc_lt _ _ (by simp)).trans (heap_alloc_at _ _ rfl))
    · rw [hW]; exact (heap_alloc_lt _ _ (by simp)).trans (heap_alloc_at _ _ (by simp))
    · rw [hW]; exact heap_alloc_at _ _ (by simp)
  have HF := hideIt hf
  have HR : Hid (RowAt W (.slice wo n3 wc) n3 (flatW ws) ∧ RowAt W (.slice WO N3 WC) N3 (flatW wt) ∧ RowAt W (.slice SO N2 SC) N2 (flatV st)) := ⟨hr3.nx hbW, hR3.nx hbW, hR2.nx hbW⟩
  have HN : Hid (ws.length = n3 ∧ wt.length = N3 ∧ st.length = N2) := ⟨hn3, hN3, hN2⟩
  have hsz : w.heap.size + 2 < W.heap.size := (Array.getElem?_eq_some_iff.1 HW.out.2.2.2.1).1
  clear hf hr3 hR3 hR2 hn3 hN3 hN2 hW hbW
  go_enter Tryz.func12, Tryz.ntmps12
  go_wp2_with fail
  go_loopw [7, 8] (fun q i wr => ∃ (k : Nat) (m : Nat), k ≤ n3 ∧ i = .int .i64 k ∧ q = .int .i64 m ∧ m ≤ k ∧ m ≤ N3 ∧ Hid (m = kf wt ws k) ∧ Hid (Below W.heap.size W wr)) (fun _ i _ => n3 - (intOf i).toNat)
  case atStart =>
    refine ⟨0, 0, Nat.zero_le _, rfl, rfl, Nat.le_refl _, Nat.zero_le _, ?_, ?_⟩
    · show 0 = kf wt ws 0
      simp [kf]
    · show Below _ _ _
      rw [← HW.out.1]
      exact Below.refl _ _
  case round =>
    obtain ⟨k, m, hk, rfl, rfl, hmk, hmN, HM, HB⟩ := hrel
    obtain ⟨a0, a1, a2, a3, a4, a5, a6⟩ := gblk7 (gblk HW.out.2.1 HB.out)
    obtain ⟨t0, t1, t2, t3, t4, t5, t6⟩ := gblk7 (gblk HW.out.2.2.1 HB.out)
    obtain ⟨o0, o1, o2⟩ := gblk3 (gblk HW.out.2.2.2.1 HB.out)
    by_cases hlt : k < n3
    · obtain ⟨⟨x0, x1⟩, hp⟩ : ∃ p, ws[k]? = some p := ⟨_, List.getElem?_eq_getElem (by rw [HN.out.1]; exact hlt)⟩
      obtain ⟨bl, off, hao, hbl, c0, c1⟩ := wt_at (HR.out.1.nx HB.out) hp
      subst hao
      simp only at c0 c1
      have hlti : (k : Int) < (n3 : Int) := by omega
      obtain ⟨V, hV⟩ : ∃ V, V = wr.alloc (.cells #[.int .i64 x0, .string x1] 61) := ⟨_, rfl⟩
      have HV : Hid (V = wr.alloc (.cells #[.int .i64 x0, .string x1] 61) ∧ V.heap[wr.heap.size]? = some (.cells #[.int .i64 x0, .string x1] 61) ∧ Below W.heap.size W V) := ⟨hV, by rw [hV]; exact heap_alloc_at _ _ rfl, by rw [hV]; exact nx_trans HB.out (nx_alloc _ _)⟩
      have HP := hideIt hp
      clear hp hV
      go_upto_region 6 with fail
      rw [← HV.out.1]
      have HB1 : Hid (Below W.heap.size W V) := HV.out.2.2
      clear a0 a1 a2 a3 a4 a5 a6 t0 t1 t2 t3 t4 t5 t6 o0 o1 o2 c0 c1
      obtain ⟨a0, a1, a2, a3, a4, a5, a6⟩ := gblk7 (gblk HW.out.2.1 HB1.out)
      obtain ⟨t0, t1, t2, t3, t4, t5, t6⟩ := gblk7 (gblk HW.out.2.2.1 HB1.out)
      obtain ⟨o0, o1, o2⟩ := gblk3 (gblk HW.out.2.2.2.1 HB1.out)
      obtain ⟨v0, v1⟩ := gblk2 HV.out.2.1
      cases hst : stL wt ⟨x0, x1⟩ with
      | true =>
        obtain ⟨h1, h2⟩ := kf_yes HF.out.ex HP.out hst
        rw [← HM.out] at h1 h2
        have hmlt : m < N3 := by
          have := (List.getElem?_eq_some_iff.1 h1).1
          rw [HN.out.2.1] at this
          exact this
        obtain ⟨bt, ft, hat, hbt, d0, d1⟩ := wt_at (HR.out.2.1.nx HB1.out) h1
        subst hat
        simp only at d0 d1
        have hmi : (m : Int) < (N3 : Int) := by omega
        have HK : Hid (m + 1 = kf wt ws (k + 1)) := h2.symm
        clear h1 h2 hst
        go_quiet (fail)
        go_wp2_with fail
        go_roundw
        case rel => exact ⟨k + 1, m + 1, by omega, by go_num, by go_num, by omega, by omega, HK.out, below_drewN HB1.out _⟩
        case measure => simp [intOf]; omega
      | false =>
        have HK : Hid (m = kf wt ws (k + 1)) := HM.out.trans (kf_no HP.out hst).symm
        have HG := hideIt (HF.out.gone k _ HP.out hst)
        have hcl : ∀ y ∈ wt, (y.client == x0) = false := fun y hy => bool_ne (fun h => by
          have : stL wt ⟨x0, x1⟩ = true := List.any_eq_true.2 ⟨y, hy, h⟩
          rw [hst] at this
          simp at this)
        have HCL := hideIt hcl
        clear hst hcl
        go_cut [37] (fun v wx => v = .bool false ∧ ∃ wy, Hid (Below W.heap.size W wy ∧ wy.heap[wr.heap.size]? = some (.cells #[.int .i64 x0, .string x1] 61)) ∧ wy = wx)
        case first =>
          by_cases hmlt : m < N3
          · obtain ⟨⟨y0, y1⟩, hy⟩ : ∃ p, wt[m]? = some p := ⟨_, List.getElem?_eq_getElem (by rw [HN.out.2.1]; exact hmlt)⟩
            obtain ⟨bt, ft, hat, hbt, d0, d1⟩ := wt_at (HR.out.2.1.nx HB1.out) hy
            subst hat
            simp only at d0 d1
            have hne : (y0 == x0) = false := HCL.out _ (List.mem_of_getElem? hy)
            have hmi : (m : Int) < (N3 : Int) := by omega
            clear hy
            go_quiet (fail)
            go_wp2_with fail
            go_meet
            exact ⟨rfl, _, ⟨below_drewN HB1.out _, HV.out.2.1⟩, rfl⟩
          · have hmi : ¬ (m : Int) < (N3 : Int) := by omega
            go_quiet (fail)
            go_wp2_with fail
            go_meet
            exact ⟨rfl, _, ⟨below_drewN HB1.out _, HV.out.2.1⟩, rfl⟩
        case rest =>
          obtain ⟨rfl, wy, HY, rfl⟩ := hcut
          have HB2 : Hid (Below W.heap.size W wy) := HY.out.1
          clear a0 a1 a2 a3 a4 a5 a6 t0 t1 t2 t3 t4 t5 t6 o0 o1 o2 v0 v1
          obtain ⟨a0, a1, a2, a3, a4, a5, a6⟩ := gblk7 (gblk HW.out.2.1 HB2.out)
          obtain ⟨t0, t1, t2, t3, t4, t5, t6⟩ := gblk7 (gblk HW.out.2.2.1 HB2.out)
          obtain ⟨o0, o1, o2⟩ := gblk3 (gblk HW.out.2.2.2.1 HB2.out)
          obtain ⟨v0, v1⟩ := gblk2 HY.out.2
          have HHD := hideIt (fun u (hu : Below W.heap.size W u) => gHolds B PO N1 PC SO N2 SC WO N3 WC QO N4 TC BG BK x0 st u (HR.out.2.2.nx hu) HN.out.2.2 (by unfold maxLen; omega))
          cases h3 : (kd == 3 && A == x0) with
          | true =>
            obtain ⟨h4, h5⟩ := Bool.and_eq_true_iff.1 h3
            clear h3
            go_wp2_with fail
            go_roundw
            case rel => exact ⟨k + 1, m, by omega, by go_num, rfl, by omega, hmN, HK.out, HB2.out⟩
            case measure => simp [intOf]; omega
          | false =>
            have HO : Hid (holdL x0 st ≠ 0 ∧ ∀ v ∈ (ws.take k).filter (stL wt), (v.pool.toList == x1.toList) = false) := by
              rcases HG.out with ⟨h4, h5⟩ | h
              · have h5' : A = x0 := h5
                rw [h4, h5'] at h3
                simp at h3
              · exact h
            obtain ⟨hd, hhd⟩ : ∃ q, holdL x0 st = q := ⟨_, rfl⟩
            have hd0 : (hd == 0) = false := by rw [← hhd]; exact beq_eq_false_iff_ne.2 HO.out.1
            rw [hhd] at HHD
            go_upto_region 8 with fail
            go_cut [49] (fun v wx => v = .bool false ∧ wy = wx)
            case first =>
              cases h4 : (kd == 3) with
              | true =>
                have h5 : (A == x0) = false := by rw [h4, Bool.true_and] at h3; exact h3
                clear h3
                go_wp2_with fail
                go_meet
                exact ⟨rfl, rfl⟩
              | false =>
                clear h3
                go_wp2_with fail
                go_meet
                exact ⟨rfl, rfl⟩
            case rest =>
              obtain ⟨rfl, rfl⟩ := hcut
              clear h3 hhd
              go_wp2_with fail
              refine (HHD.out _ HB2.out).mono ?_
              rintro e w3 ⟨rfl, hb3⟩
              have HB3 : Hid (Below W.heap.size W w3) := nx_trans HB2.out hb3
              have HY3 : Hid (w3.heap[wr.heap.size]? = some (.cells #[.int .i64 x0, .string x1] 61)) := gblk HY.out.2 hb3
              clear a0 a1 a2 a3 a4 a5 a6 t0 t1 t2 t3 t4 t5 t6 o0 o1 o2 v0 v1 hb3
              go_wp2_with fail
              go_loopw [11] (fun i wq => ∃ j : Nat, j ≤ m ∧ i = .int .i64 j ∧ Hid (Below w3.heap.size w3 wq)) (fun i _ => m - (intOf i).toNat)
              case atStart => exact ⟨0, Nat.zero_le _, rfl, Below.refl _ _⟩
              case round =>
                obtain ⟨j, hj, rfl, HB4⟩ := hrel
                have HB5 : Hid (Below W.heap.size W wr) := nx_trans HB3.out HB4.out
                by_cases hjm : j < m
                · obtain ⟨⟨y0, y1⟩, hy⟩ : ∃ p, wt[j]? = some p := ⟨_, List.getElem?_eq_getElem (by rw [HN.out.2.1]; omega)⟩
                  obtain ⟨bt, ft, hat, hbt, d0, d1⟩ := wt_at (HR.out.2.1.nx HB5.out) hy
                  have hne : (y1.toList == x1.toList) = false := HO.out.2 _ (kf_mem HF.out.ex (by rw [← HM.out]; exact hjm) hy)
                  subst hat
                  simp only at d0 d1
                  have hji : (j : Int) < (m : Int) := by omega
                  have hjN : (j : Int) < (N3 : Int) := by omega
                  have t3 := (gblk7 (gblk HW.out.2.2.1 HB5.out)).2.2.2.1
                  have v1 := (gblk2 (gblk HY3.out HB4.out)).2
                  clear hy
                  go_wp2_with fail
                  go_quiet (fail)
                  go_wp2_with fail
                  go_roundw
                  case rel => exact ⟨j + 1, by omega, by go_num, below_drewN HB4.out _⟩
                  case measure => simp [intOf]; omega
                · have hji : ¬ (j : Int) < (m : Int) := by omega
                  go_wp2_with fail
                  go_roundw
                  case rel => exact ⟨k + 1, m, by omega, by go_num, rfl, by omega, hmN, HK.out, HB5.out⟩
                  case measure => simp [intOf]; omega
    · have hke : k = n3 := by omega
      subst hke
      obtain ⟨h1, h2⟩ := kf_end HF.out.ex HN.out.1
      rw [← HM.out, HN.out.2.1] at h1
      rw [← HM.out] at h2
      rcases HF.out.end' with he | ⟨hkd, nm, he⟩
      · rw [he] at h1
        have hmN' : m = N3 := by simpa using h1
        subst hmN'
        clear h1 h2
        go_wp2_with fail
        go_quiet (fail)
        go_wp2_with fail
        go_ret
        exact ⟨rfl, below_drewN (nx_trans HW.out.2.2.2.2 HB.out) _⟩
      · rw [he] at h1 h2
        obtain ⟨bt, ft, hat, hbt, d0, d1⟩ := wt_at (HR.out.2.1.nx HB.out) h2
        subst hat
        subst hkd
        simp only at d0 d1
        have hmN' : (m : Int) + 1 = (N3 : Int) := by simp at h1; omega
        have hm1 : ((m : Int) == (N3 : Int)) = false := beq_eq_false_iff_ne.2 (by omega)
        have hm2 : (m : Int) < (N3 : Int) := by omega
        have hm3 : IntKind.i64.wrap ((m : Int) + 1) = (N3 : Int) := by rw [IntWalk.i64_in _ (by omega)]; exact hmN'
        clear h1 h2 he
        go_wp2_with fail
        go_quiet (fail)
        go_wp2_with fail
        go_ret
        exact ⟨rfl, below_drewN (nx_trans HW.out.2.2.2.2 HB.out) _⟩
end Lw
end Go.Proofs.YtohbonfngeblkaaGreat
