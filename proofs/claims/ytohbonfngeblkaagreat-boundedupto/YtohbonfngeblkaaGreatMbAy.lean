import Derived.Test.YtohbonfngeblkaaGreatMbAx
namespace Go.Proofs.YtohbonfngeblkaaGreat
open Go.RowKit
namespace Lw
open Co
def enB (kd A er c was : Int) : Bool := (er == 0) && (((kd == 2) && (A == c)) || ((kd == 4) && (A == was)))
def asB (kd A er c : Int) : Bool := ((er == 0) && (kd == 1)) && (A == c)
structure LastP (was is wv vv n : Int) (en as' : Bool) : Prop where
  l1 : 0 < was → (is == was) = !en
  l2 : 0 < was → 0 < is → (is == was) = true
  l3 : was = 0 → 0 < is → wv < 0 → as' = true
  l4 : 0 ≤ vv → wv < 0 → as' = true
  l5 : as' = true → (is == n) = true ∧ (n == 0) = decide (0 ≤ vv)
set_option maxRecDepth 20000 in
set_option maxHeartbeats 8000000 in
theorem gLasting (b : Int) (po : Option Addr) (n1 pc : Nat) (so : Option Addr) (n2 sc : Nat) (wo : Option Addr) (n3 wc : Nat) (qo : Option Addr) (n4 tc : Nat) (bg bk : Bool) (B : Int) (PO : Option Addr) (N1 PC : Nat) (SO : Option Addr) (N2 SC : Nat) (WO : Option Addr) (N3 WC : Nat) (QO : Option Addr) (N4 TC : Nat) (BG BK : Bool) (kd A P n er : Int) (ss st : List Srv) (ws wt : List Wtr) (w : World) (hf : ∀ c : Int, 1 ≤ c → c ≤ 99 → LastP (holdL c ss) (holdL c st) (optI (ws.findIdx? (isCliW c))) (optI (wt.findIdx? (isCliW c))) n (enB kd A er c (holdL c ss)) (asB kd A er c))
    (hr2 : RowAt w (.slice so n2 sc) n2 (flatV ss)) (hn2 : ss.length = n2) (hq2 : n2 ≤ 1099511627776) (hr3 : RowAt w (.slice wo n3 wc) n3 (flatW ws)) (hn3 : ws.length = n3) (hq3 : n3 ≤ 1099511627776)
    (hR2 : RowAt w (.slice SO N2 SC) N2 (flatV st)) (hN2 : st.length = N2) (hQ2 : N2 ≤ 1099511627776) (hR3 : RowAt w (.slice WO N3 WC) N3 (flatW wt)) (hN3 : wt.length = N3) (hQ3 : N3 ≤ 1099511627776) :
    Calls Tryz.prog 15 #[.agg #[.int .i64 b, .slice po n1 pc, .slice so n2 sc, .slice wo n3 wc, .slice qo n4 tc, .bool bg, .bool bk], .agg #[.int .i64 B, .slice PO N1 PC, .slice SO N2 SC, .slice WO N3 WC, .slice QO N4 TC, .bool BG, .bool BK], .agg #[.int .i64 kd, .int .i64 A, .int .i64 P], .int .i64 n, .int .i64 er] w fun e w' => e = .returned (.bool true) ∧ Below w.heap.size w w' := by
  obtain ⟨W, hW⟩ : ∃ W, W = ((w.alloc (.cells #[.int .i64 b, .slice po n1 pc, .slice so n2 sc, .slice wo n3 wc, .slice qo n4 tc, .bool bg, .bool bk] 33)).alloc (.cells #[.int .i64 B, .slice PO N1 PC, .slice SO N2 SC, .slice WO N3 WC, .slice QO N4 TC, .bool BG, .bool BK] 33)).alloc (.cells #[.int .i64 kd, .int .i64 A, .int .i64 P] 39) := ⟨_, rfl⟩
  have hbW : Below w.heap.size w W := by rw [hW]; exact nx_trans (nx_trans (nx_alloc _ _) (nx_alloc _ _)) (nx_alloc _ _)
  have HW : Hid (W = ((w.alloc (.cells #[.int .i64 b, .slice po n1 pc, .slice so n2 sc, .slice wo n3 wc, .slice qo n4 tc, .bool bg, .bool bk] 33)).alloc (.cells #[.int .i64 B, .slice PO N1 PC, .slice SO N2 SC, .slice WO N3 WC, .slice QO N4 TC, .bool BG, .bool BK] 33)).alloc (.cells #[.int .i64 kd, .int .i64 A, .int .i64 P] 39) ∧ W.heap[w.heap.size]? = some (.cells #[.int .i64 b, .slice po n1 pc, .slice so n2 sc, .slice wo n3 wc, .slice qo n4 tc, .bool bg, .bool bk] 33) ∧ W.heap[w.heap.size + 1]? = some (.cells #[.int .i64 B, .slice PO N1 PC, .slice SO N2 SC, .slice WO N3 WC, .slice QO N4 TC, .bool BG, .bool BK] 33) ∧ W.heap[w.heap.size + 2]? = some (.cells #[.int .i64 kd, .int .i64 A, .int .i64 P] 39) ∧ Below w.heap.size w W) := by
    refine ⟨hW, ?_, ?_, ?_, hbW⟩
    · rw [hW]; exact (heap_alloc_lt _ _ (by simp; omega)).trans ((heap_alloc_lt _ _ (by simp)).trans (heap_alloc_at _ _ rfl))
    · rw [hW]; exact (heap_alloc_lt _ _ (by simp)).trans (heap_alloc_at _ _ (by simp))
    · rw [hW]; exact heap_alloc_at _ _ (by simp)
  have HF := hideIt hf
  have H1 := hideIt (fun u c (hu : Below W.heap.size W u) => gHolds b po n1 pc so n2 sc wo n3 wc qo n4 tc bg bk c ss u ((hr2.nx hbW).nx hu) hn2 (by unfold maxLen; omega))
  have H2 := hideIt (fun u c (hu : Below W.heap.size W u) => gHolds B PO N1 PC SO N2 SC WO N3 WC QO N4 TC BG BK c st u ((hR2.nx hbW).nx hu) hN2 (by unfold maxLen; omega))
  have H3 := hideIt (fun u c (hu : Below W.heap.size W u) => gWaits b po n1 pc so n2 sc wo n3 wc qo n4 tc bg bk c ws u ((hr3.nx hbW).nx hu) hn3 (by unfold maxLen; omega))
  have H4 := hideIt (fun u c (hu : Below W.heap.size W u) => gWaits B PO N1 PC SO N2 SC WO N3 WC QO N4 TC BG BK c wt u ((hR3.nx hbW).nx hu) hN3 (by unfold maxLen; omega))
  clear hf hr2 hn2 hq2 hr3 hn3 hq3 hR2 hN2 hQ2 hR3 hN3 hQ3 hW hbW
  go_enter Tryz.func15, Tryz.ntmps15
  go_wp2_with fail
  go_loopw [11] (fun i wr => ∃ c : Nat, 1 ≤ c ∧ c ≤ 100 ∧ i = .int .i64 c ∧ Hid (Below W.heap.size W wr)) (fun i _ => 100 - (intOf i).toNat)
  case atStart =>
    refine ⟨1, Nat.le_refl _, by omega, rfl, ?_⟩
    show Below _ _ _
    rw [← HW.out.1]
    exact Below.refl _ _
  case round =>
    obtain ⟨c, hc1, hc2, rfl, HB⟩ := hrel
    obtain ⟨a0, a1, a2, a3, a4, a5, a6⟩ := gblk7 (gblk HW.out.2.1 HB.out)
    by_cases hlt : c ≤ 99
    · have hci : (c : Int) ≤ 99 := by omega
      have HL := hideIt (HF.out (c : Int) (by omega) hci)
      go_wp2_with fail
      refine (H1.out wr c HB.out).mono ?_
      rintro e w1 ⟨rfl, hb1⟩
      have HB1 : Hid (Below W.heap.size W w1) := nx_trans HB.out hb1
      clear hb1 a0 a1 a2 a3 a4 a5 a6
      obtain ⟨t0, t1, t2, t3, t4, t5, t6⟩ := gblk7 (gblk HW.out.2.2.1 HB1.out)
      go_wp2_with fail
      refine (H2.out w1 c HB1.out).mono ?_
      rintro e w2 ⟨rfl, hb2⟩
      have HB2 : Hid (Below W.heap.size W w2) := nx_trans HB1.out hb2
      obtain ⟨was, hwas⟩ : ∃ q, holdL (c : Int) ss = q := ⟨_, rfl⟩
      obtain ⟨is, his⟩ : ∃ q, holdL (c : Int) st = q := ⟨_, rfl⟩
      rw [hwas, his] at HL
      rw [hwas, his]
      clear hb2 t0 t1 t2 t3 t4 t5 t6 hwas his
      obtain ⟨o0, o1, o2⟩ := gblk3 (gblk HW.out.2.2.2.1 HB2.out)
      obtain ⟨en, hen⟩ : ∃ q, enB kd A er c was = q := ⟨_, rfl⟩
      obtain ⟨ak, hak⟩ : ∃ q, asB kd A er c = q := ⟨_, rfl⟩
      rw [hen, hak] at HL
      have HEN := hideIt hen
      have HAK := hideIt hak
      clear hen hak
      go_upto_region 6 with fail
      go_cut [14] (fun v wx => v = .bool en ∧ w2 = wx)
      case first =>
        cases e1 : (er == 0) with
        | false =>
          have he : en = false := by rw [← HEN.out]; simp [enB, e1]
          subst he
          go_wp2_with fail
          go_meet
          exact ⟨rfl, rfl⟩
        | true =>
          cases e2 : (kd == 2) with
          | true =>
            have e4 : (kd == 4) = false := beq_eq_false_iff_ne.2 (by have := eq_of_beq e2; omega)
            have he : en = (A == (c : Int)) := by rw [← HEN.out]; simp only [enB, e1, e2, e4, Bool.true_and, Bool.false_and, Bool.or_false]
            subst he
            cases e3 : (A == (c : Int)) with
            | true =>
              go_wp2_with fail
              go_meet
              exact ⟨by simp [e3], rfl⟩
            | false =>
              go_wp2_with fail
              go_meet
              exact ⟨by simp [e3], rfl⟩
          | false =>
            cases e4 : (kd == 4) with
            | true =>
              have he : en = (A == was) := by rw [← HEN.out]; simp only [enB, e1, e2, e4, Bool.true_and, Bool.false_and, Bool.false_or]
              subst he
              go_wp2_with fail
              go_meet
              exact ⟨rfl, rfl⟩
            | false =>
              have he : en = false := by rw [← HEN.out]; simp [enB, e1, e2, e4]
              subst he
              go_wp2_with fail
              go_meet
              exact ⟨rfl, rfl⟩
      case rest =>
        obtain ⟨rfl, rfl⟩ := hcut
        go_upto_region 7 with fail
        go_cut [15] (fun v wx => v = .bool ak ∧ w2 = wx)
        case first =>
          cases e1 : (er == 0) with
          | false =>
            have he : ak = false := by rw [← HAK.out]; simp [asB, e1]
            subst he
            go_wp2_with fail
            go_meet
            exact ⟨rfl, rfl⟩
          | true =>
            cases e2 : (kd == 1) with
            | true =>
              have he : ak = (A == (c : Int)) := by rw [← HAK.out]; simp only [asB, e1, e2, Bool.true_and]
              subst he
              go_wp2_with fail
              go_meet
              exact ⟨rfl, rfl⟩
            | false =>
              have he : ak = false := by rw [← HAK.out]; simp [asB, e1, e2]
              subst he
              go_wp2_with fail
              go_meet
              exact ⟨rfl, rfl⟩
        case rest =>
          obtain ⟨rfl, rfl⟩ := hcut
          clear o0 o1 o2
          obtain ⟨a0, a1, a2, a3, a4, a5, a6⟩ := gblk7 (gblk HW.out.2.1 HB2.out)
          go_wp2_with fail
          refine (H3.out w2 c HB2.out).mono ?_
          rintro e w3 ⟨rfl, hb3⟩
          have HB3 : Hid (Below W.heap.size W w3) := nx_trans HB2.out hb3
          clear hb3 a0 a1 a2 a3 a4 a5 a6
          obtain ⟨t0, t1, t2, t3, t4, t5, t6⟩ := gblk7 (gblk HW.out.2.2.1 HB3.out)
          go_wp2_with fail
          refine (H4.out w3 c HB3.out).mono ?_
          rintro e w4 ⟨rfl, hb4⟩
          have HB4 : Hid (Below W.heap.size W w4) := nx_trans HB3.out hb4
          obtain ⟨wv, hwv⟩ : ∃ q, optI (ws.findIdx? (isCliW (c : Int))) = q := ⟨_, rfl⟩
          obtain ⟨vv, hvv⟩ : ∃ q, optI (wt.findIdx? (isCliW (c : Int))) = q := ⟨_, rfl⟩
          rw [hwv, hvv] at HL
          rw [hwv, hvv]
          clear hb4 t0 t1 t2 t3 t4 t5 t6 hwv hvv
          go_upto_region 10 with fail
          go_cut [71] (fun v wx => v = .bool false ∧ w4 = wx)
          case first =>
            cases hw0 : decide (0 < was) with
            | false =>
              go_wp2_with fail
              go_meet
              exact ⟨rfl, rfl⟩
            | true =>
              have h1 := HL.out.l1 (of_decide_eq_true hw0)
              cases en with
              | true =>
                simp only [Bool.not_true] at h1
                go_wp2_with fail
                go_meet
                exact ⟨rfl, rfl⟩
              | false =>
                simp only [Bool.not_false] at h1
                go_wp2_with fail
                go_meet
                exact ⟨rfl, rfl⟩
          case rest =>
            obtain ⟨rfl, rfl⟩ := hcut
            go_upto_region 12 with fail
            go_cut [81] (fun v wx => v = .bool false ∧ w4 = wx)
            case first =>
              cases hw0 : decide (0 < was) with
              | false =>
                go_wp2_with fail
                go_meet
                exact ⟨rfl, rfl⟩
              | true =>
                cases hi0 : decide (0 < is) with
                | false =>
                  go_wp2_with fail
                  go_meet
                  exact ⟨rfl, rfl⟩
                | true =>
                  have h1 := HL.out.l2 (of_decide_eq_true hw0) (of_decide_eq_true hi0)
                  have h2 : (is != was) = false := by unfold bne; rw [h1]; rfl
                  clear h1
                  go_wp2_with fail
                  go_meet
                  exact ⟨rfl, rfl⟩
            case rest =>
              obtain ⟨rfl, rfl⟩ := hcut
              go_upto_region 14 with fail
              go_cut [93] (fun v wx => v = .bool false ∧ w4 = wx)
              case first =>
                cases hw0 : (was == 0) with
                | false =>
                  go_wp2_with fail
                  go_meet
                  exact ⟨rfl, rfl⟩
                | true =>
                  cases hi0 : decide (0 < is) with
                  | false =>
                    go_wp2_with fail
                    go_meet
                    exact ⟨rfl, rfl⟩
                  | true =>
                    cases hv0 : decide (wv < 0) with
                    | false =>
                      go_wp2_with fail
                      go_meet
                      exact ⟨rfl, rfl⟩
                    | true =>
                      have h1 := HL.out.l3 (eq_of_beq hw0) (of_decide_eq_true hi0) (of_decide_eq_true hv0)
                      subst h1
                      go_wp2_with fail
                      go_meet
                      exact ⟨rfl, rfl⟩
              case rest =>
                obtain ⟨rfl, rfl⟩ := hcut
                go_upto_region 16 with fail
                go_cut [108] (fun v wx => v = .bool false ∧ w4 = wx)
                case first =>
                  cases hw0 : decide (0 ≤ vv) with
                  | false =>
                    go_wp2_with fail
                    go_meet
                    exact ⟨rfl, rfl⟩
                  | true =>
                    cases hv0 : decide (wv < 0) with
                    | false =>
                      go_wp2_with fail
                      go_meet
                      exact ⟨rfl, rfl⟩
                    | true =>
                      have h1 := HL.out.l4 (of_decide_eq_true hw0) (of_decide_eq_true hv0)
                      subst h1
                      go_wp2_with fail
                      go_meet
                      exact ⟨rfl, rfl⟩
                case rest =>
                  obtain ⟨rfl, rfl⟩ := hcut
                  go_upto_region 18 with fail
                  go_cut [119] (fun v wx => v = .bool false ∧ w4 = wx)
                  case first =>
                    cases ak with
                    | false =>
                      go_wp2_with fail
                      go_meet
                      exact ⟨rfl, rfl⟩
                    | true =>
                      obtain ⟨h1, h2⟩ := HL.out.l5 rfl
                      have h3 : (is != n) = false := by unfold bne; rw [h1]; rfl
                      clear h1
                      cases hv0 : decide (0 ≤ vv) with
                      | true =>
                        rw [hv0] at h2
                        go_wp2_with fail
                        go_meet
                        exact ⟨rfl, rfl⟩
                      | false =>
                        rw [hv0] at h2
                        go_wp2_with fail
                        go_meet
                        exact ⟨rfl, rfl⟩
                  case rest =>
                    obtain ⟨rfl, rfl⟩ := hcut
                    go_wp2_with fail
                    go_roundw
                    case rel => exact ⟨c + 1, by omega, by omega, by go_num, HB4.out⟩
                    case measure => simp [intOf]; omega
    · have hci : ¬ (c : Int) ≤ 99 := by omega
      go_wp2_with fail
      go_ret
      exact ⟨rfl, nx_trans HW.out.2.2.2.2 HB.out⟩
end Lw
end Go.Proofs.YtohbonfngeblkaaGreat
