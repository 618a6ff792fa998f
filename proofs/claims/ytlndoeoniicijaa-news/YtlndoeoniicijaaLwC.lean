
import Derived.Test.YtlndoeoniicijaaLwB
namespace Go.Proofs.Ytlndoeoniicijaa
open Go.RowKit
namespace Lw
open Co

set_option maxRecDepth 20000 in
set_option maxHeartbeats 1000000 in
theorem sameState_flat (bud : Int) (ps : List Pl) (ss : List Srv) (ws : List Wtr) (ts : List Stp) (bg bk : Bool) (n1 n2 n3 n4 : Nat) (po : Option Addr) (pc : Nat) (so : Option Addr) (sc : Nat) (wo : Option Addr) (wc : Nat) (to : Option Addr) (tc : Nat) (po' : Option Addr) (pc' : Nat) (so' : Option Addr) (sc' : Nat) (wo' : Option Addr) (wc' : Nat) (to' : Option Addr) (tc' : Nat) (w : World)
    (hn : ps.length = n1 ∧ ss.length = n2 ∧ ws.length = n3 ∧ ts.length = n4) (hl : n1 ≤ maxLen ∧ n2 ≤ maxLen ∧ n3 ≤ maxLen ∧ n4 ≤ maxLen)
    (h1 : RowAt w (.slice po n1 pc) n1 (flatP ps) ∧ RowAt w (.slice so n2 sc) n2 (flatV ss) ∧ RowAt w (.slice wo n3 wc) n3 (flatW ws) ∧ RowAt w (.slice to n4 tc) n4 (flatT ts))
    (h2 : RowAt w (.slice po' n1 pc') n1 (flatP ps) ∧ RowAt w (.slice so' n2 sc') n2 (flatV ss) ∧ RowAt w (.slice wo' n3 wc') n3 (flatW ws) ∧ RowAt w (.slice to' n4 tc') n4 (flatT ts)) :
    Calls Try.prog 9 #[.agg #[.int .i64 bud, .slice po n1 pc, .slice so n2 sc, .slice wo n3 wc, .slice to n4 tc, .bool bg, .bool bk], .agg #[.int .i64 bud, .slice po' n1 pc', .slice so' n2 sc', .slice wo' n3 wc', .slice to' n4 tc', .bool bg, .bool bk]] w fun e w' => e = .returned (.bool true) ∧ Below w.heap.size w w' := by
  have HN := hideIt hn
  have HL := hideIt hl
  obtain ⟨W, hW⟩ : ∃ W, W = (w.alloc (.cells #[.int .i64 bud, .slice po n1 pc, .slice so n2 sc, .slice wo n3 wc, .slice to n4 tc, .bool bg, .bool bk] 33)).alloc (.cells #[.int .i64 bud, .slice po' n1 pc', .slice so' n2 sc', .slice wo' n3 wc', .slice to' n4 tc', .bool bg, .bool bk] 33) := ⟨_, rfl⟩
  have hB0 : Below w.heap.size w W := by rw [hW]; exact nx_trans (nx_alloc _ _) (nx_alloc _ _)
  have HG : Hid (W.heap[w.heap.size]? = some (.cells #[.int .i64 bud, .slice po n1 pc, .slice so n2 sc, .slice wo n3 wc, .slice to n4 tc, .bool bg, .bool bk] 33) ∧ W.heap[w.heap.size + 1]? = some (.cells #[.int .i64 bud, .slice po' n1 pc', .slice so' n2 sc', .slice wo' n3 wc', .slice to' n4 tc', .bool bg, .bool bk] 33) ∧ W.heap.size = w.heap.size + 2 ∧ Below w.heap.size w W) := by
    refine ⟨?_, ?_, ?_, hB0⟩
    · rw [hW]; exact (heap_alloc_lt _ _ (by simp)).trans (heap_alloc_at _ _ rfl)
    · rw [hW]; exact heap_alloc_at _ _ (by simp)
    · rw [hW]; simp
  have H1 : Hid (RowAt W (.slice so n2 sc) n2 (flatV ss) ∧ RowAt W (.slice wo n3 wc) n3 (flatW ws) ∧ RowAt W (.slice to n4 tc) n4 (flatT ts)) := ⟨h1.2.1.nx hB0, h1.2.2.1.nx hB0, h1.2.2.2.nx hB0⟩
  have H2 : Hid (RowAt W (.slice so' n2 sc') n2 (flatV ss) ∧ RowAt W (.slice wo' n3 wc') n3 (flatW ws) ∧ RowAt W (.slice to' n4 tc') n4 (flatT ts)) := ⟨h2.2.1.nx hB0, h2.2.2.1.nx hB0, h2.2.2.2.nx hB0⟩
  have HC := hideIt (sameP bud po po' n1 pc pc' ps W (h1.1.nx hB0) (h2.1.nx hB0) hn.1 hl.1)
  rw [hW] at HC
  have HW := hideIt hW
  clear h1 h2 hn hl hB0 hW
  go_enter Try.func9, Try.ntmps9
  go_wp2_with fail
  refine HC.out.mono ?_
  rintro e w1 ⟨rfl, hb1⟩
  rw [← HW.out] at hb1
  have K1 : Hid (Below W.heap.size W w1) := hb1
  obtain ⟨a0, a1, a2, a3, a4, a5, a6⟩ := blk7 hb1 (by rw [HG.out.2.2.1]; omega) HG.out.1
  obtain ⟨b0, b1, b2, b3, b4, b5, b6⟩ := blk7 hb1 (by rw [HG.out.2.2.1]; omega) HG.out.2.1
  have HC1 := hideIt (sameV so so' n2 sc sc' ss w1 (H1.out.1.nx hb1) (H2.out.1.nx hb1) HN.out.2.1 HL.out.2.1)
  clear hb1 HC
  go_wp2_with fail
  refine HC1.out.mono ?_
  rintro e w2 ⟨rfl, hb2⟩
  have hb02 := nx_trans K1.out hb2
  have K2 : Hid (Below W.heap.size W w2) := hb02
  clear a0 a1 a2 a3 a4 a5 a6 b0 b1 b2 b3 b4 b5 b6
  obtain ⟨a0, a1, a2, a3, a4, a5, a6⟩ := blk7 hb02 (by rw [HG.out.2.2.1]; omega) HG.out.1
  obtain ⟨b0, b1, b2, b3, b4, b5, b6⟩ := blk7 hb02 (by rw [HG.out.2.2.1]; omega) HG.out.2.1
  have HC2 := hideIt (sameW wo wo' n3 wc wc' ws w2 (H1.out.2.1.nx hb02) (H2.out.2.1.nx hb02) HN.out.2.2.1 HL.out.2.2.1)
  clear hb2 hb02 HC1
  go_wp2_with fail
  refine HC2.out.mono ?_
  rintro e w3 ⟨rfl, hb3⟩
  have hb03 := nx_trans K2.out hb3
  have K3 : Hid (Below W.heap.size W w3) := hb03
  clear a0 a1 a2 a3 a4 a5 a6 b0 b1 b2 b3 b4 b5 b6
  obtain ⟨a0, a1, a2, a3, a4, a5, a6⟩ := blk7 hb03 (by rw [HG.out.2.2.1]; omega) HG.out.1
  obtain ⟨b0, b1, b2, b3, b4, b5, b6⟩ := blk7 hb03 (by rw [HG.out.2.2.1]; omega) HG.out.2.1
  have HC3 := hideIt (sameS to to' n4 tc tc' ts w3 (H1.out.2.2.nx hb03) (H2.out.2.2.nx hb03) HN.out.2.2.2 HL.out.2.2.2)
  clear hb3 hb03 HC2
  go_wp2_with fail
  refine HC3.out.mono ?_
  rintro e w4 ⟨rfl, hb4⟩
  have hb04 := nx_trans K3.out hb4
  have K4 : Hid (Below w.heap.size w w4) := nx_trans HG.out.2.2.2 hb04
  clear a0 a1 a2 a3 a4 a5 a6 b0 b1 b2 b3 b4 b5 b6
  obtain ⟨a0, a1, a2, a3, a4, a5, a6⟩ := blk7 hb04 (by rw [HG.out.2.2.1]; omega) HG.out.1
  obtain ⟨b0, b1, b2, b3, b4, b5, b6⟩ := blk7 hb04 (by rw [HG.out.2.2.1]; omega) HG.out.2.1
  clear hb4 hb04 HC3
  go_wp2_with fail
  go_ret
  exact ⟨by simp, K4.out⟩
theorem sameState_true (S : Sta) (v u : Stv) (w : World) (h1 : StaAt w S v) (h2 : StaAt w S u) (hs : Small S) :
    Calls Try.prog 9 #[staA S v, staA S u] w fun e w' => e = .returned (.bool true) ∧ Below w.heap.size w w' :=
  sameState_flat S.bud S.pools S.srv S.wts S.plan S.begun S.back _ _ _ _ v.po v.pc v.so v.sc v.wo v.wc v.to v.tc u.po u.pc u.so u.sc u.wo u.wc u.to u.tc w ⟨rfl, rfl, rfl, rfl⟩ ⟨hs.p, hs.s, hs.t, hs.l⟩ ⟨h1.p, h1.s, h1.t, h1.l⟩ ⟨h2.p, h2.s, h2.t, h2.l⟩
end Lw
end Go.Proofs.Ytlndoeoniicijaa
