import Derived.Test.YtmmmjpkhnbfnbaaGreatMgAa
namespace Go.Proofs.YtmmmjpkhnbfnbaaGreat
open Go.RowKit
namespace Lw
open Co

/-- is a server surplus? -/
def surR (bud : Int) (ps : List Pl) (ss : List Srv) (s : Srv) : Bool := match ps.find? (isNameP s.pool) with
  | none => true
  | some x => (s.far != x.fr) || decide (x.sz < (cntG (isPoolV s.pool) ss : Int)) || decide (bud < (ss.length : Int))
theorem blk4w {w : World} {g : Nat} {c0 c1 c2 c3 : Value} {t : TypeId} (h : w.heap[g]? = some (.cells #[c0, c1, c2, c3] t (0, 0))) : w.cell? ⟨g, 0, none⟩ = some c0 ∧ w.cell? ⟨g, 1, none⟩ = some c1 ∧ w.cell? ⟨g, 2, none⟩ = some c2 ∧ w.cell? ⟨g, 3, none⟩ = some c3 := by
  refine ⟨?_, ?_, ?_, ?_⟩ <;> simp [World.cell?, h]

set_option maxRecDepth 20000 in
set_option maxHeartbeats 8000000 in
theorem surplus_any (bud : Int) (po : Option Addr) (n1 pc : Nat) (so : Option Addr) (n2 sc : Nat) (wo : Option Addr) (n3 wc : Nat) (qo : Option Addr) (n4 tc : Nat) (bg bk : Bool) (nx hb : Int) (ho : Option Addr) (n5 hc : Nat) (ps : List Pl) (ss : List Srv) (w : World) (i : Nat) (x0 : Int) (x1 : ByteArray) (x2 x3 : Int) (hr1 : RowAt w (.slice po n1 pc) n1 (flatP ps)) (hn1 : ps.length = n1) (hq1 : n1 ≤ 1099511627776) (hr2 : RowAt w (.slice so n2 sc) n2 (flatV ss)) (hn2 : ss.length = n2) (hq2 : n2 ≤ 1099511627776) (hsi : ss[i]? = some ⟨x0, x1, x2, x3⟩) :
    Calls Tryz.prog 70 #[.agg #[.int .i64 bud, .slice po n1 pc, .slice so n2 sc, .slice wo n3 wc, .slice qo n4 tc, .bool bg, .bool bk, .int .i64 nx, .int .i64 hb, .slice ho n5 hc], .int .i64 i] w fun e w' => e = .returned (.bool (surR bud ps ss ⟨x0, x1, x2, x3⟩)) ∧ Below w.heap.size w w' := by
  obtain ⟨bl, off, hao, hbl, d0, d1, d2, d3⟩ := sv_at hr2 hsi
  have hin : (i : Int) < (n2 : Int) := by
    have := (List.getElem?_eq_some_iff.1 hsi).1
    rw [hn2] at this
    omega
  have h0i : (0 : Int) ≤ (i : Int) := by omega
  subst hao
  simp only at d0 d1 d2 d3
  obtain ⟨W, hW⟩ : ∃ W, W = (w.alloc (bWd (.int .i64 bud) (.slice po n1 pc) (.slice (some ⟨bl, off, none⟩) n2 sc) (.slice wo n3 wc) (.slice qo n4 tc) (.bool bg) (.bool bk) (.int .i64 nx) (.int .i64 hb) (.slice ho n5 hc))).alloc (.cells #[.int .i64 x0, .string x1, .int .i64 x2, .int .i64 x3] 74) := ⟨_, rfl⟩
  have hbW : Below w.heap.size w W := by rw [hW]; exact nx_trans (nx_alloc _ _) (nx_alloc _ _)
  have HW : Hid (W = (w.alloc (bWd (.int .i64 bud) (.slice po n1 pc) (.slice (some ⟨bl, off, none⟩) n2 sc) (.slice wo n3 wc) (.slice qo n4 tc) (.bool bg) (.bool bk) (.int .i64 nx) (.int .i64 hb) (.slice ho n5 hc))).alloc (.cells #[.int .i64 x0, .string x1, .int .i64 x2, .int .i64 x3] 74) ∧ W.heap[w.heap.size]? = some (bWd (.int .i64 bud) (.slice po n1 pc) (.slice (some ⟨bl, off, none⟩) n2 sc) (.slice wo n3 wc) (.slice qo n4 tc) (.bool bg) (.bool bk) (.int .i64 nx) (.int .i64 hb) (.slice ho n5 hc)) ∧ W.heap[w.heap.size + 1]? = some (.cells #[.int .i64 x0, .string x1, .int .i64 x2, .int .i64 x3] 74) ∧ Below w.heap.size w W) := by
    refine ⟨hW, ?_, ?_, hbW⟩
    · rw [hW]; exact (heap_alloc_lt _ _ (by simp)).trans (heap_alloc_at _ _ rfl)
    · rw [hW]; exact heap_alloc_at _ _ (by simp)
  have HAL := hideIt (rAt bud po n1 pc x1 ps W (hr1.nx hbW) hn1 (by unfold maxLen; omega))
  have HCT := hideIt (fun u (hb' : Below W.heap.size W u) => rCount bud po n1 pc (some ⟨bl, off, none⟩) n2 sc wo n3 wc qo n4 tc bg bk nx hb ho n5 hc x1 ss u ((hr2.nx hbW).nx hb') hn2 (by unfold maxLen; omega))
  have HPL : Hid (∀ (u : World) (q : Nat) (x : Pl), Below W.heap.size W u → ps[q]? = some x → ∃ b1 f1, po = some ⟨b1, f1, none⟩ ∧ u.cell? ⟨b1, f1 + q * 4, none⟩ = some (.string x.nm) ∧ u.cell? ⟨b1, f1 + q * 4 + 1, none⟩ = some (.int .i64 x.sz) ∧ u.cell? ⟨b1, f1 + q * 4 + 2, none⟩ = some (.int .i64 x.wt) ∧ u.cell? ⟨b1, f1 + q * 4 + 3, none⟩ = some (.int .i64 x.fr)) := by
    intro u q x hu hq
    obtain ⟨b1, f1, e, _, g0, g1, g2, g3⟩ := pool_at ((hr1.nx hbW).nx hu) hq
    exact ⟨b1, f1, e, g0, g1, g2, g3⟩
  have HLN : Hid (ps.length = n1 ∧ ss.length = n2) := ⟨hn1, hn2⟩
  have e0 : ∀ o, (w.alloc o).cell? ⟨bl, off + i * 4, none⟩ = some (.int .i64 x0) := fun o => ((nx_alloc w o).cell (p := ⟨bl, off + i * 4, none⟩) hbl).trans d0
  have e1 : ∀ o, (w.alloc o).cell? ⟨bl, off + i * 4 + 1, none⟩ = some (.string x1) := fun o => ((nx_alloc w o).cell (p := ⟨bl, off + i * 4 + 1, none⟩) hbl).trans d1
  have e2 : ∀ o, (w.alloc o).cell? ⟨bl, off + i * 4 + 2, none⟩ = some (.int .i64 x2) := fun o => ((nx_alloc w o).cell (p := ⟨bl, off + i * 4 + 2, none⟩) hbl).trans d2
  have e3 : ∀ o, (w.alloc o).cell? ⟨bl, off + i * 4 + 3, none⟩ = some (.int .i64 x3) := fun o => ((nx_alloc w o).cell (p := ⟨bl, off + i * 4 + 3, none⟩) hbl).trans d3
  clear hr1 hn1 hr2 hn2 hsi hW hbW d0 d1 d2 d3
  go_enter Tryz.func70, Tryz.ntmps70
  go_upto_region 2 with fail
  rw [← HW.out.1]
  clear e0 e1 e2 e3
  obtain ⟨a0, a1, a2, a3, a4, a5, a6, a7, a8, a9, az⟩ := blk10 HW.out.2.1
  obtain ⟨s0, s1, s2, s3⟩ := blk4w HW.out.2.2.1
  go_wp2_with fail
  refine HAL.out.mono ?_
  rintro e w1 ⟨rfl, hb1⟩
  have HB1 := hideIt hb1
  clear hb1 a0 a1 a2 a3 a4 a5 a6 a7 a8 a9 az s0 s1 s2 s3
  obtain ⟨a0, a1, a2, a3, a4, a5, a6, a7, a8, a9, az⟩ := blk10 (blk_nx HW.out.2.1 HB1.out)
  obtain ⟨s0, s1, s2, s3⟩ := blk4w (blk_nx HW.out.2.2.1 HB1.out)
  cases hp : ps.findIdx? (isNameP x1) with
  | none =>
    have HL : Hid (surR bud ps ss ⟨x0, x1, x2, x3⟩ = true) := by show _ = _; simp only [surR, fidx_no hp]
    clear hp
    unfold optI
    go_wp2_with fail
    go_ret
    exact ⟨ret_bool HL.out.symm, nx_trans HW.out.2.2.2 HB1.out⟩
  | some p =>
    obtain ⟨⟨y0, y1, y2, y3⟩, hy, hfy⟩ := fidx_at hp
    have hpn : (p : Int) < (n1 : Int) := by
      have := (List.getElem?_eq_some_iff.1 hy).1
      rw [HLN.out.1] at this
      omega
    have h0p : (0 : Int) ≤ (p : Int) := by omega
    have hnp : ¬ (p : Int) < 0 := by omega
    have HL : Hid (surR bud ps ss ⟨x0, x1, x2, x3⟩ = ((x2 != y3) || decide (y1 < (cntG (isPoolV x1) ss : Int)) || decide (bud < (n2 : Int)))) := by show _ = _; simp only [surR, hfy, HLN.out.2]
    have HY := hideIt hy
    clear hp hy hfy
    unfold optI
    go_wp2_with fail
    refine (HCT.out w1 HB1.out).mono ?_
    rintro e w2 ⟨rfl, hb2⟩
    have HB2 := hideIt (nx_trans HB1.out hb2)
    clear hb2 a0 a1 a2 a3 a4 a5 a6 a7 a8 a9 az s0 s1 s2 s3
    obtain ⟨ct, hct⟩ : ∃ ct : Nat, cntG (isPoolV x1) ss = ct := ⟨_, rfl⟩
    rw [hct] at HL ⊢
    clear hct
    obtain ⟨a0, a1, a2, a3, a4, a5, a6, a7, a8, a9, az⟩ := blk10 (blk_nx HW.out.2.1 HB2.out)
    obtain ⟨pb, pf, hpo, g0, g1, g2, g3⟩ := HPL.out w2 p _ HB2.out HY.out
    subst hpo
    simp only at g0 g1 g2 g3
    obtain ⟨V, hV⟩ : ∃ V, V = w2.alloc (bPl ⟨y0, y1, y2, y3⟩) := ⟨_, rfl⟩
    have HV : Hid (V = w2.alloc (bPl ⟨y0, y1, y2, y3⟩) ∧ Below W.heap.size W V ∧ V.heap[w2.heap.size]? = some (bPl ⟨y0, y1, y2, y3⟩)) := ⟨hV, by rw [hV]; exact nx_trans HB2.out (nx_alloc _ _), by rw [hV]; exact heap_alloc_at _ _ rfl⟩
    clear hV
    go_upto_region 7 with fail
    rw [← HV.out.1]
    clear a0 a1 a2 a3 a4 a5 a6 a7 a8 a9 az g0 g1 g2 g3
    obtain ⟨a0, a1, a2, a3, a4, a5, a6, a7, a8, a9, az⟩ := blk10 (blk_nx HW.out.2.1 HV.out.2.1)
    obtain ⟨s0, s1, s2, s3⟩ := blk4w (blk_nx HW.out.2.2.1 HV.out.2.1)
    obtain ⟨z0, z1, z2, z3⟩ := blk4w HV.out.2.2
    cases hq1' : (x2 != y3) with
    | true =>
      rw [hq1'] at HL
      go_wp2_with fail
      go_ret
      exact ⟨ret_bool (by rw [HL.out]; rfl), nx_trans HW.out.2.2.2 HV.out.2.1⟩
    | false =>
      rw [hq1'] at HL
      by_cases h2 : y1 < (ct : Int)
      · go_wp2_with fail
        go_ret
        exact ⟨ret_bool (by rw [HL.out, decide_eq_true h2]; rfl), nx_trans HW.out.2.2.2 HV.out.2.1⟩
      · go_wp2_with fail
        go_ret
        exact ⟨ret_bool (by rw [HL.out, decide_eq_false (show ¬ y1 < (ct : Int) by omega)]; simp), nx_trans HW.out.2.2.2 HV.out.2.1⟩
end Lw
end Go.Proofs.YtmmmjpkhnbfnbaaGreat
namespace Go.Proofs.YtmmmjpkhnbfnbaaGreat
open Go.RowKit
namespace Lw
open Co

/-- the servers behind Done, ahead of serving -/
def doneS (bud : Int) (ps : List Pl) (ss : List Srv) (k : Nat) : List Srv :=
  match (ss.modify k (fun y => { y with client := 0 }))[k]? with
  | none => ss
  | some s => if surR bud ps (ss.modify k (fun y => { y with client := 0 })) s = true then (ss.modify k (fun y => { y with client := 0 })).eraseIdx k else ss.modify k (fun y => { y with client := 0 })
/-- what Done answers -/
def DoneW (w w' : World) (inp : Value) (bud : Int) (ps : List Pl) (ss : List Srv) (ws : List Wtr) (ts : List Stp) (bg bk : Bool) (nx hb : Int) (hs : List Pl) (c : Int) (e : Ending) : Prop :=
  if 1 ≤ c ∧ c ≤ 99 then match ss.findIdx? (isCliV c) with
    | none => e = .returned (.tuple #[inp, .int .i64 14]) ∧ Below w.heap.size w w'
    | some k => ∃ v, e = .returned (.tuple #[v, .int .i64 0]) ∧ GaveO w.heap.size w w' bud ps (servedR bud ps ws.length (doneS bud ps ss k) ws nx).1 (servedR bud ps ws.length (doneS bud ps ss k) ws nx).2.1 ts bg bk (servedR bud ps ws.length (doneS bud ps ss k) ws nx).2.2 hb hs (.returned v)
  else e = .returned (.tuple #[inp, .int .i64 10]) ∧ Below w.heap.size w w'

set_option maxRecDepth 20000 in
set_option maxHeartbeats 8000000 in
theorem done_any (bud : Int) (po : Option Addr) (n1 pc : Nat) (so : Option Addr) (n2 sc : Nat) (wo : Option Addr) (n3 wc : Nat) (qo : Option Addr) (n4 tc : Nat) (bg bk : Bool) (nx hb : Int) (ho : Option Addr) (n5 hc : Nat) (ps : List Pl) (ss : List Srv) (ws : List Wtr) (ts : List Stp) (hs : List Pl) (w : World) (c : Int) (hr1 : RowAt w (.slice po n1 pc) n1 (flatP ps)) (hn1 : ps.length = n1) (hq1 : n1 ≤ 1099511627775) (hr2 : RowAt w (.slice so n2 sc) n2 (flatV ss)) (hn2 : ss.length = n2) (hq2 : n2 ≤ 1099511627775) (hr3 : RowAt w (.slice wo n3 wc) n3 (flatW ws)) (hn3 : ws.length = n3) (hq3 : n3 ≤ 1099511627775) (hr4 : RowAt w (.slice qo n4 tc) n4 (flatT ts)) (hn4 : ts.length = n4) (hq4 : n4 ≤ 1099511627775) (hr5 : RowAt w (.slice ho n5 hc) n5 (flatP hs)) (hn5 : hs.length = n5) (hq5 : n5 ≤ 1099511627775) (hsf : n2 + n3 ≤ 1099511627775) (hx0 : 0 ≤ nx) (hx1 : nx + n3 ≤ 4611686018427387904) :
    Calls Tryz.prog 37 #[.agg #[.int .i64 bud, .slice po n1 pc, .slice so n2 sc, .slice wo n3 wc, .slice qo n4 tc, .bool bg, .bool bk, .int .i64 nx, .int .i64 hb, .slice ho n5 hc], .int .i64 c] w fun e w' => DoneW w w' (.agg #[.int .i64 bud, .slice po n1 pc, .slice so n2 sc, .slice wo n3 wc, .slice qo n4 tc, .bool bg, .bool bk, .int .i64 nx, .int .i64 hb, .slice ho n5 hc]) bud ps ss ws ts bg bk nx hb hs c e := by
  obtain ⟨W, hW⟩ : ∃ W, W = (w.alloc (bWd (.int .i64 bud) (.slice po n1 pc) (.slice so n2 sc) (.slice wo n3 wc) (.slice qo n4 tc) (.bool bg) (.bool bk) (.int .i64 nx) (.int .i64 hb) (.slice ho n5 hc))).alloc zW := ⟨_, rfl⟩
  have hbW : Below w.heap.size w W := by rw [hW]; exact nx_trans (nx_alloc _ _) (nx_alloc _ _)
  have HW : Hid (W = (w.alloc (bWd (.int .i64 bud) (.slice po n1 pc) (.slice so n2 sc) (.slice wo n3 wc) (.slice qo n4 tc) (.bool bg) (.bool bk) (.int .i64 nx) (.int .i64 hb) (.slice ho n5 hc))).alloc zW ∧ W.heap[w.heap.size]? = some (bWd (.int .i64 bud) (.slice po n1 pc) (.slice so n2 sc) (.slice wo n3 wc) (.slice qo n4 tc) (.bool bg) (.bool bk) (.int .i64 nx) (.int .i64 hb) (.slice ho n5 hc)) ∧ W.heap[w.heap.size + 1]? = some zW ∧ Below w.heap.size w W) := by
    refine ⟨hW, ?_, ?_, hbW⟩
    · rw [hW]; exact (heap_alloc_lt _ _ (by simp)).trans (heap_alloc_at _ _ rfl)
    · rw [hW]; exact heap_alloc_at _ _ (by simp)

  have HHD := hideIt (rHolds bud po n1 pc so n2 sc wo n3 wc qo n4 tc bg bk nx hb ho n5 hc c ss W (hr2.nx hbW) hn2 (by unfold maxLen; omega))
  have HCO := hideIt (fun u (hb' : Below W.heap.size W u) => copied_any bud po n1 pc so n2 sc wo n3 wc qo n4 tc bg bk nx hb ho n5 hc ps ss ws ts hs u ((hr1.nx hbW).nx hb') hn1 (by omega) ((hr2.nx hbW).nx hb') hn2 (by omega) ((hr3.nx hbW).nx hb') hn3 (by omega) ((hr4.nx hbW).nx hb') hn4 (by omega) ((hr5.nx hbW).nx hb') hn5 (by omega))
  have HLN : Hid (ps.length = n1 ∧ ss.length = n2 ∧ ws.length = n3 ∧ ts.length = n4 ∧ hs.length = n5) := ⟨hn1, hn2, hn3, hn4, hn5⟩
  clear hr1 hn1 hr2 hn2 hr3 hn3 hr4 hn4 hr5 hn5 hW hbW
  go_enter Tryz.func37, Tryz.ntmps37
  go_wp2_with fail
  rw [← HW.out.1]
  refine (btw_any c 1 99 W).mono ?_
  rintro e w1 ⟨rfl, h1⟩
  obtain rfl := h1.symm
  obtain ⟨a0, a1, a2, a3, a4, a5, a6, a7, a8, a9, az⟩ := blk10 (blk_nx HW.out.2.1 (Below.refl _ W))
  obtain ⟨r0, r1, r2, r3, r4, r5, r6, r7, r8, r9, rz⟩ := blk10 (blk_nx HW.out.2.2.1 (Below.refl _ W))
  by_cases hc1 : 1 ≤ c ∧ c ≤ 99
  · rw [decide_eq_true hc1]
    have HC1 := hideIt hc1
    clear hc1
    go_wp2_with fail
    refine HHD.out.mono ?_
    rintro e w2 ⟨rfl, hb2⟩
    have HB2 := hideIt hb2
    clear hb2
    clear a0 a1 a2 a3 a4 a5 a6 a7 a8 a9 az r0 r1 r2 r3 r4 r5 r6 r7 r8 r9 rz
    obtain ⟨a0, a1, a2, a3, a4, a5, a6, a7, a8, a9, az⟩ := blk10 (blk_nx HW.out.2.1 HB2.out)
    obtain ⟨r0, r1, r2, r3, r4, r5, r6, r7, r8, r9, rz⟩ := blk10 (blk_nx HW.out.2.2.1 HB2.out)
    cases hl : ss.findIdx? (isCliV c) with
    | none =>
      have HL := hideIt hl
      clear hl
      unfold optI
      have HFW : Hid ((((((((((((w2.setCell ⟨w.heap.size + 1, 0, none⟩ (.int .i64 bud)).setCell ⟨w.heap.size + 1, 1, none⟩ (.slice po n1 pc)).setCell ⟨w.heap.size + 1, 2, none⟩ (.slice so n2 sc)).setCell ⟨w.heap.size + 1, 3, none⟩ (.slice wo n3 wc)).setCell ⟨w.heap.size + 1, 4, none⟩ (.slice qo n4 tc)).setCell ⟨w.heap.size + 1, 5, none⟩ (.bool bg)).setCell ⟨w.heap.size + 1, 6, none⟩ (.bool bk)).setCell ⟨w.heap.size + 1, 7, none⟩ (.int .i64 nx)).setCell ⟨w.heap.size + 1, 8, none⟩ (.int .i64 hb)).setCell ⟨w.heap.size + 1, 9, none⟩ (.slice ho n5 hc))).heap[w.heap.size + 1]? = some (bWd (.int .i64 bud) (.slice po n1 pc) (.slice so n2 sc) (.slice wo n3 wc) (.slice qo n4 tc) (.bool bg) (.bool bk) (.int .i64 nx) (.int .i64 hb) (.slice ho n5 hc))) := st10_heap (blk_nx HW.out.2.2.1 HB2.out) _ _ _ _ _ _ _ _ _ _
      have HFB : Hid (Below w.heap.size w (((((((((((w2.setCell ⟨w.heap.size + 1, 0, none⟩ (.int .i64 bud)).setCell ⟨w.heap.size + 1, 1, none⟩ (.slice po n1 pc)).setCell ⟨w.heap.size + 1, 2, none⟩ (.slice so n2 sc)).setCell ⟨w.heap.size + 1, 3, none⟩ (.slice wo n3 wc)).setCell ⟨w.heap.size + 1, 4, none⟩ (.slice qo n4 tc)).setCell ⟨w.heap.size + 1, 5, none⟩ (.bool bg)).setCell ⟨w.heap.size + 1, 6, none⟩ (.bool bk)).setCell ⟨w.heap.size + 1, 7, none⟩ (.int .i64 nx)).setCell ⟨w.heap.size + 1, 8, none⟩ (.int .i64 hb)).setCell ⟨w.heap.size + 1, 9, none⟩ (.slice ho n5 hc)))) := st10_bel (nx_trans HW.out.2.2.2 HB2.out) (by omega) _ _ _ _ _ _ _ _ _ _
      go_wp2_with fail
      obtain ⟨FW, hFW⟩ : ∃ FW, ((((((((((w2.setCell ⟨w.heap.size + 1, 0, none⟩ (.int .i64 bud)).setCell ⟨w.heap.size + 1, 1, none⟩ (.slice po n1 pc)).setCell ⟨w.heap.size + 1, 2, none⟩ (.slice so n2 sc)).setCell ⟨w.heap.size + 1, 3, none⟩ (.slice wo n3 wc)).setCell ⟨w.heap.size + 1, 4, none⟩ (.slice qo n4 tc)).setCell ⟨w.heap.size + 1, 5, none⟩ (.bool bg)).setCell ⟨w.heap.size + 1, 6, none⟩ (.bool bk)).setCell ⟨w.heap.size + 1, 7, none⟩ (.int .i64 nx)).setCell ⟨w.heap.size + 1, 8, none⟩ (.int .i64 hb)).setCell ⟨w.heap.size + 1, 9, none⟩ (.slice ho n5 hc)) = FW := ⟨_, rfl⟩
      rw [hFW] at HFW HFB ⊢
      obtain ⟨f0, f1, f2, f3, f4, f5, f6, f7, f8, f9, fz⟩ := blk10 HFW.out
      clear hFW
      refine bodyPost_ret (v := .tuple #[.agg #[.int .i64 bud, .slice po n1 pc, .slice so n2 sc, .slice wo n3 wc, .slice qo n4 tc, .bool bg, .bool bk, .int .i64 nx, .int .i64 hb, .slice ho n5 hc], .int .i64 14]) (by simp [results, Tryz.results37, go_sem, f0, f1, f2, f3, f4, f5, f6, f7, f8, f9]) rfl ?_
      unfold DoneW
      rw [if_pos HC1.out, HL.out]
      exact ⟨rfl, HFB.out⟩
    | some k =>
      obtain ⟨y, hy, _⟩ := fidx_at hl
      have HL := hideIt hl
      have hkn : (k : Int) < (n2 : Int) := by
        have := (List.getElem?_eq_some_iff.1 hy).1
        rw [HLN.out.2.1] at this
        omega
      have h0k : (0 : Int) ≤ (k : Int) := by omega
      have hnk : ¬ (k : Int) < 0 := by omega
      have HY := hideIt hy
      clear hl hy
      unfold optI
      go_wp2_with fail
      refine (HCO.out w2 HB2.out).mono ?_
      rintro e w3 ⟨po3, pc3, so3, sc3, wo3, wc3, qo3, tc3, ho3, hc3, rfl, o0, o1, o2, o3, o4, hb3⟩
      have HB3 := hideIt (nx_trans HB2.out hb3)
      obtain ⟨U3, hU⟩ : ∃ U3, U3 = w3.alloc (bWd (.int .i64 bud) (.slice po3 n1 pc3) (.slice so3 n2 sc3) (.slice wo3 n3 wc3) (.slice qo3 n4 tc3) (.bool bg) (.bool bk) (.int .i64 nx) (.int .i64 hb) (.slice ho3 n5 hc3)) := ⟨_, rfl⟩
      have HU : Hid (U3 = w3.alloc (bWd (.int .i64 bud) (.slice po3 n1 pc3) (.slice so3 n2 sc3) (.slice wo3 n3 wc3) (.slice qo3 n4 tc3) (.bool bg) (.bool bk) (.int .i64 nx) (.int .i64 hb) (.slice ho3 n5 hc3)) ∧ Below W.heap.size W U3 ∧ U3.heap[w3.heap.size]? = some (bWd (.int .i64 bud) (.slice po3 n1 pc3) (.slice so3 n2 sc3) (.slice wo3 n3 wc3) (.slice qo3 n4 tc3) (.bool bg) (.bool bk) (.int .i64 nx) (.int .i64 hb) (.slice ho3 n5 hc3))) := ⟨hU, by rw [hU]; exact nx_trans HB3.out (nx_alloc _ _), by rw [hU]; exact heap_alloc_at _ _ rfl⟩
      have HO3 : Hid (U3.ownsRow w2.heap.size 70 4 (.slice po3 n1 pc3) n1 (flatP ps) ∧ U3.ownsRow w2.heap.size 74 4 (.slice so3 n2 sc3) n2 (flatV ss) ∧ U3.ownsRow w2.heap.size 76 2 (.slice wo3 n3 wc3) n3 (flatW ws) ∧ U3.ownsRow w2.heap.size 72 3 (.slice qo3 n4 tc3) n4 (flatT ts) ∧ U3.ownsRow w2.heap.size 70 4 (.slice ho3 n5 hc3) n5 (flatP hs)) := by
        rw [hU]
        exact ⟨own_below o0 (nx_alloc _ _), own_below o1 (nx_alloc _ _), own_below o2 (nx_alloc _ _), own_below o3 (nx_alloc _ _), own_below o4 (nx_alloc _ _)⟩
      clear o0 o1 o2 o3 o4 hb3 hU
      clear a0 a1 a2 a3 a4 a5 a6 a7 a8 a9 az r0 r1 r2 r3 r4 r5 r6 r7 r8 r9 rz
      go_upto_region 8 with fail
      rw [← HU.out.1]
      obtain ⟨a0, a1, a2, a3, a4, a5, a6, a7, a8, a9, az⟩ := blk10 HU.out.2.2
      obtain ⟨gs, gf, hgo, hgs, t0, t1, t2, t3⟩ := sv_at (own_row HO3.out.2.1) HY.out
      subst hgo
      have HGF : Hid (gf = 0 ∧ w2.heap.size ≤ gs) := by
        refine ⟨?_, (HO3.out.2.1.lt gs rfl).1⟩
        rcases HO3.out.2.1.2 with ⟨h', _⟩ | ⟨g', cap', cur, h', _⟩
        · simp at h'
        · simp at h'; exact h'.1.2
      have hzf : ∀ a, U3.frozen? ⟨gs, a, none⟩ = false := by
        have h := HO3.out.2.1
        rw [HGF.out.1] at h
        exact fun a => h.frozenAt a
      obtain ⟨X, hX⟩ : ∃ X, X = U3.setCell ⟨gs, gf + k * 4 + 3, none⟩ (.int .i64 0) := ⟨_, rfl⟩
      have HXX : Hid (X = U3.setCell ⟨gs, gf + k * 4 + 3, none⟩ (.int .i64 0) ∧ Below W.heap.size W X ∧ X.heap[w3.heap.size]? = some (bWd (.int .i64 bud) (.slice po3 n1 pc3) (.slice (some ⟨gs, gf, none⟩) n2 sc3) (.slice wo3 n3 wc3) (.slice qo3 n4 tc3) (.bool bg) (.bool bk) (.int .i64 nx) (.int .i64 hb) (.slice ho3 n5 hc3))) := by
        have h1 := HGF.out.2
        have h2 := HB2.out.size
        have hne : w3.heap.size ≠ gs := fun e => own_ne10 HO3.out.2.1 HU.out.2.2 (by decide) (by rw [e]; rfl)
        refine ⟨hX, by rw [hX]; exact HU.out.2.1.setCell (by show W.heap.size ≤ gs; omega) _, ?_⟩
        rw [hX]; exact (Below.heap_setCell _ _ _ _ hne).trans HU.out.2.2
      have hle2 : w.heap.size ≤ w2.heap.size := Nat.le_trans HW.out.2.2.2.size HB2.out.size
      have HOX : Hid (X.ownsRow w.heap.size 70 4 (.slice po3 n1 pc3) n1 (flatP ps) ∧ X.ownsRow w.heap.size 74 4 (.slice (some ⟨gs, gf, none⟩) n2 sc3) n2 (flatV (ss.modify k (fun y => { y with client := 0 }))) ∧ X.ownsRow w.heap.size 76 2 (.slice wo3 n3 wc3) n3 (flatW ws) ∧ X.ownsRow w.heap.size 72 3 (.slice qo3 n4 tc3) n4 (flatT ts) ∧ X.ownsRow w.heap.size 70 4 (.slice ho3 n5 hc3) n5 (flatP hs)) := by
        rw [hX]
        refine ⟨own_mono (own_set1 HO3.out.1 (own_apart HO3.out.2.1 HO3.out.1 (by decide) rfl)) hle2, ?_, own_mono (own_set1 HO3.out.2.2.1 (own_apart HO3.out.2.1 HO3.out.2.2.1 (by decide) rfl)) hle2, own_mono (own_set1 HO3.out.2.2.2.1 (own_apart HO3.out.2.1 HO3.out.2.2.2.1 (by decide) rfl)) hle2, own_mono (own_set1 HO3.out.2.2.2.2 (own_apart HO3.out.2.1 HO3.out.2.2.2.2 (by decide) rfl)) hle2⟩
        have h := HO3.out.2.1
        have e := HGF.out.1
        subst e
        rw [modify_at (fun y => { y with client := 0 }) HY.out, ← flatV_put _ _ _ 0 HY.out]
        have := (h.stored (k * 4 + 3) (.int .i64 0)).1
        exact own_mono (by simpa [Nat.add_assoc] using this) hle2
      have HS1 : Hid ((ss.modify k (fun y => { y with client := 0 })).length = n2 ∧ (ss.modify k (fun y => { y with client := 0 }))[k]? = some ⟨y.id, y.pool, y.far, 0⟩) := by
        refine ⟨by rw [List.length_modify]; exact HLN.out.2.1, ?_⟩
        rw [modify_at (fun y => { y with client := 0 }) HY.out, List.getElem?_set_self (List.getElem?_eq_some_iff.1 HY.out).1]
      have HSU := hideIt (surplus_any bud po3 n1 pc3 (some ⟨gs, gf, none⟩) n2 sc3 wo3 n3 wc3 qo3 n4 tc3 bg bk nx hb ho3 n5 hc3 ps (ss.modify k (fun y => { y with client := 0 })) X k y.id y.pool y.far 0 (own_row HOX.out.1) HLN.out.1 (by omega) (own_row HOX.out.2.1) HS1.out.1 (by omega) HS1.out.2)
      clear hX
      go_upto_region 9 with fail
      rw [← HXX.out.1]
      clear a0 a1 a2 a3 a4 a5 a6 a7 a8 a9 az t0 t1 t2 t3 hzf
      obtain ⟨a0, a1, a2, a3, a4, a5, a6, a7, a8, a9, az⟩ := blk10 HXX.out.2.2
      go_wp2_with fail
      refine HSU.out.mono ?_
      rintro e w4 ⟨rfl, hb4⟩
      have HB4 := hideIt (nx_trans HXX.out.2.1 hb4)
      have HO4 : Hid (w4.ownsRow w.heap.size 70 4 (.slice po3 n1 pc3) n1 (flatP ps) ∧ w4.ownsRow w.heap.size 74 4 (.slice (some ⟨gs, gf, none⟩) n2 sc3) n2 (flatV (ss.modify k (fun y => { y with client := 0 }))) ∧ w4.ownsRow w.heap.size 76 2 (.slice wo3 n3 wc3) n3 (flatW ws) ∧ w4.ownsRow w.heap.size 72 3 (.slice qo3 n4 tc3) n4 (flatT ts) ∧ w4.ownsRow w.heap.size 70 4 (.slice ho3 n5 hc3) n5 (flatP hs)) := ⟨own_below HOX.out.1 hb4, own_below HOX.out.2.1 hb4, own_below HOX.out.2.2.1 hb4, own_below HOX.out.2.2.2.1 hb4, own_below HOX.out.2.2.2.2 hb4⟩
      have HX4 := hideIt (blk_nx HXX.out.2.2 hb4)
      clear hb4 a0 a1 a2 a3 a4 a5 a6 a7 a8 a9 az
      cases hsr : surR bud ps (ss.modify k (fun y => { y with client := 0 })) ⟨y.id, y.pool, y.far, 0⟩ with
      | false =>
        have HSR : Hid (doneS bud ps ss k = (ss.modify k (fun y => { y with client := 0 }))) := by show _ = _; unfold doneS; rw [HS1.out.2]; simp only [hsr]; rfl
        clear hsr
        have HSV := hideIt (served_any w.heap.size n3 bud po3 n1 pc3 (some ⟨gs, gf, none⟩) n2 sc3 wo3 n3 wc3 qo3 n4 tc3 bg bk nx hb ho3 n5 hc3 ps (ss.modify k (fun y => { y with client := 0 })) ws ts hs w4 (Nat.le_trans HW.out.2.2.2.size HB4.out.size) HO4.out.1 HLN.out.1 hq1 HO4.out.2.1 HS1.out.1 (by omega) HO4.out.2.2.1 HLN.out.2.2.1 hq3 HO4.out.2.2.2.1 HLN.out.2.2.2.1 hq4 HO4.out.2.2.2.2 HLN.out.2.2.2.2 hq5 (by rw [HLN.out.2.2.1]; exact Nat.le_refl _) (by omega) hx0 hx1)
        obtain ⟨a0, a1, a2, a3, a4, a5, a6, a7, a8, a9, az⟩ := blk10 HX4.out
        go_wp2_with fail
        refine HSV.out.mono ?_
        obtain ⟨⟨z1, z2, z3⟩, hz⟩ : ∃ z, servedR bud ps n3 (ss.modify k (fun y => { y with client := 0 })) ws nx = z := ⟨_, rfl⟩
        rw [hz]
        rintro e w9 ⟨po9, pc9, so9, sc9, wo9, wc9, qo9, tc9, ho9, hc9, rfl, o0, o1, o2, o3, o4, hb9⟩
        simp only at o0 o1 o2 o3 o4 ⊢
        have HB9 := hideIt (nx_trans HB4.out hb9)
        have HO9 := hideIt (And.intro o0 (And.intro o1 (And.intro o2 (And.intro o3 o4))))
        have HZ := hideIt hz
        clear o0 o1 o2 o3 o4 hb9 hz a0 a1 a2 a3 a4 a5 a6 a7 a8 a9 az
        obtain ⟨r0, r1, r2, r3, r4, r5, r6, r7, r8, r9, rz⟩ := blk10 (blk_nx HW.out.2.2.1 HB9.out)
        have HFO : Hid ((((((((((((w9.setCell ⟨w.heap.size + 1, 0, none⟩ (.int .i64 bud)).setCell ⟨w.heap.size + 1, 1, none⟩ (.slice po9 ps.length pc9)).setCell ⟨w.heap.size + 1, 2, none⟩ (.slice so9 z1.length sc9)).setCell ⟨w.heap.size + 1, 3, none⟩ (.slice wo9 z2.length wc9)).setCell ⟨w.heap.size + 1, 4, none⟩ (.slice qo9 ts.length tc9)).setCell ⟨w.heap.size + 1, 5, none⟩ (.bool bg)).setCell ⟨w.heap.size + 1, 6, none⟩ (.bool bk)).setCell ⟨w.heap.size + 1, 7, none⟩ (.int .i64 z3)).setCell ⟨w.heap.size + 1, 8, none⟩ (.int .i64 hb)).setCell ⟨w.heap.size + 1, 9, none⟩ (.slice ho9 hs.length hc9))).ownsRow w.heap.size 70 4 (.slice po9 ps.length pc9) ps.length (flatP ps) ∧ (((((((((((w9.setCell ⟨w.heap.size + 1, 0, none⟩ (.int .i64 bud)).setCell ⟨w.heap.size + 1, 1, none⟩ (.slice po9 ps.length pc9)).setCell ⟨w.heap.size + 1, 2, none⟩ (.slice so9 z1.length sc9)).setCell ⟨w.heap.size + 1, 3, none⟩ (.slice wo9 z2.length wc9)).setCell ⟨w.heap.size + 1, 4, none⟩ (.slice qo9 ts.length tc9)).setCell ⟨w.heap.size + 1, 5, none⟩ (.bool bg)).setCell ⟨w.heap.size + 1, 6, none⟩ (.bool bk)).setCell ⟨w.heap.size + 1, 7, none⟩ (.int .i64 z3)).setCell ⟨w.heap.size + 1, 8, none⟩ (.int .i64 hb)).setCell ⟨w.heap.size + 1, 9, none⟩ (.slice ho9 hs.length hc9))).ownsRow w.heap.size 74 4 (.slice so9 z1.length sc9) z1.length (flatV z1) ∧ (((((((((((w9.setCell ⟨w.heap.size + 1, 0, none⟩ (.int .i64 bud)).setCell ⟨w.heap.size + 1, 1, none⟩ (.slice po9 ps.length pc9)).setCell ⟨w.heap.size + 1, 2, none⟩ (.slice so9 z1.length sc9)).setCell ⟨w.heap.size + 1, 3, none⟩ (.slice wo9 z2.length wc9)).setCell ⟨w.heap.size + 1, 4, none⟩ (.slice qo9 ts.length tc9)).setCell ⟨w.heap.size + 1, 5, none⟩ (.bool bg)).setCell ⟨w.heap.size + 1, 6, none⟩ (.bool bk)).setCell ⟨w.heap.size + 1, 7, none⟩ (.int .i64 z3)).setCell ⟨w.heap.size + 1, 8, none⟩ (.int .i64 hb)).setCell ⟨w.heap.size + 1, 9, none⟩ (.slice ho9 hs.length hc9))).ownsRow w.heap.size 76 2 (.slice wo9 z2.length wc9) z2.length (flatW z2) ∧ (((((((((((w9.setCell ⟨w.heap.size + 1, 0, none⟩ (.int .i64 bud)).setCell ⟨w.heap.size + 1, 1, none⟩ (.slice po9 ps.length pc9)).setCell ⟨w.heap.size + 1, 2, none⟩ (.slice so9 z1.length sc9)).setCell ⟨w.heap.size + 1, 3, none⟩ (.slice wo9 z2.length wc9)).setCell ⟨w.heap.size + 1, 4, none⟩ (.slice qo9 ts.length tc9)).setCell ⟨w.heap.size + 1, 5, none⟩ (.bool bg)).setCell ⟨w.heap.size + 1, 6, none⟩ (.bool bk)).setCell ⟨w.heap.size + 1, 7, none⟩ (.int .i64 z3)).setCell ⟨w.heap.size + 1, 8, none⟩ (.int .i64 hb)).setCell ⟨w.heap.size + 1, 9, none⟩ (.slice ho9 hs.length hc9))).ownsRow w.heap.size 72 3 (.slice qo9 ts.length tc9) ts.length (flatT ts) ∧ (((((((((((w9.setCell ⟨w.heap.size + 1, 0, none⟩ (.int .i64 bud)).setCell ⟨w.heap.size + 1, 1, none⟩ (.slice po9 ps.length pc9)).setCell ⟨w.heap.size + 1, 2, none⟩ (.slice so9 z1.length sc9)).setCell ⟨w.heap.size + 1, 3, none⟩ (.slice wo9 z2.length wc9)).setCell ⟨w.heap.size + 1, 4, none⟩ (.slice qo9 ts.length tc9)).setCell ⟨w.heap.size + 1, 5, none⟩ (.bool bg)).setCell ⟨w.heap.size + 1, 6, none⟩ (.bool bk)).setCell ⟨w.heap.size + 1, 7, none⟩ (.int .i64 z3)).setCell ⟨w.heap.size + 1, 8, none⟩ (.int .i64 hb)).setCell ⟨w.heap.size + 1, 9, none⟩ (.slice ho9 hs.length hc9))).ownsRow w.heap.size 70 4 (.slice ho9 hs.length hc9) hs.length (flatP hs)) := ⟨own_st10 HO9.out.1 (own_ne10 HO9.out.1 (blk_nx HW.out.2.2.1 HB9.out) (by decide)) _ _ _ _ _ _ _ _ _ _, own_st10 HO9.out.2.1 (own_ne10 HO9.out.2.1 (blk_nx HW.out.2.2.1 HB9.out) (by decide)) _ _ _ _ _ _ _ _ _ _, own_st10 HO9.out.2.2.1 (own_ne10 HO9.out.2.2.1 (blk_nx HW.out.2.2.1 HB9.out) (by decide)) _ _ _ _ _ _ _ _ _ _, own_st10 HO9.out.2.2.2.1 (own_ne10 HO9.out.2.2.2.1 (blk_nx HW.out.2.2.1 HB9.out) (by decide)) _ _ _ _ _ _ _ _ _ _, own_st10 HO9.out.2.2.2.2 (own_ne10 HO9.out.2.2.2.2 (blk_nx HW.out.2.2.1 HB9.out) (by decide)) _ _ _ _ _ _ _ _ _ _⟩
        have HFW : Hid ((((((((((((w9.setCell ⟨w.heap.size + 1, 0, none⟩ (.int .i64 bud)).setCell ⟨w.heap.size + 1, 1, none⟩ (.slice po9 ps.length pc9)).setCell ⟨w.heap.size + 1, 2, none⟩ (.slice so9 z1.length sc9)).setCell ⟨w.heap.size + 1, 3, none⟩ (.slice wo9 z2.length wc9)).setCell ⟨w.heap.size + 1, 4, none⟩ (.slice qo9 ts.length tc9)).setCell ⟨w.heap.size + 1, 5, none⟩ (.bool bg)).setCell ⟨w.heap.size + 1, 6, none⟩ (.bool bk)).setCell ⟨w.heap.size + 1, 7, none⟩ (.int .i64 z3)).setCell ⟨w.heap.size + 1, 8, none⟩ (.int .i64 hb)).setCell ⟨w.heap.size + 1, 9, none⟩ (.slice ho9 hs.length hc9))).heap[w.heap.size + 1]? = some (bWd (.int .i64 bud) (.slice po9 ps.length pc9) (.slice so9 z1.length sc9) (.slice wo9 z2.length wc9) (.slice qo9 ts.length tc9) (.bool bg) (.bool bk) (.int .i64 z3) (.int .i64 hb) (.slice ho9 hs.length hc9))) := st10_heap (blk_nx HW.out.2.2.1 HB9.out) _ _ _ _ _ _ _ _ _ _
        have HFB : Hid (Below w.heap.size w (((((((((((w9.setCell ⟨w.heap.size + 1, 0, none⟩ (.int .i64 bud)).setCell ⟨w.heap.size + 1, 1, none⟩ (.slice po9 ps.length pc9)).setCell ⟨w.heap.size + 1, 2, none⟩ (.slice so9 z1.length sc9)).setCell ⟨w.heap.size + 1, 3, none⟩ (.slice wo9 z2.length wc9)).setCell ⟨w.heap.size + 1, 4, none⟩ (.slice qo9 ts.length tc9)).setCell ⟨w.heap.size + 1, 5, none⟩ (.bool bg)).setCell ⟨w.heap.size + 1, 6, none⟩ (.bool bk)).setCell ⟨w.heap.size + 1, 7, none⟩ (.int .i64 z3)).setCell ⟨w.heap.size + 1, 8, none⟩ (.int .i64 hb)).setCell ⟨w.heap.size + 1, 9, none⟩ (.slice ho9 hs.length hc9)))) := st10_bel (nx_trans HW.out.2.2.2 HB9.out) (by omega) _ _ _ _ _ _ _ _ _ _
        go_wp2_with fail
        obtain ⟨FW, hFW⟩ : ∃ FW, ((((((((((w9.setCell ⟨w.heap.size + 1, 0, none⟩ (.int .i64 bud)).setCell ⟨w.heap.size + 1, 1, none⟩ (.slice po9 ps.length pc9)).setCell ⟨w.heap.size + 1, 2, none⟩ (.slice so9 z1.length sc9)).setCell ⟨w.heap.size + 1, 3, none⟩ (.slice wo9 z2.length wc9)).setCell ⟨w.heap.size + 1, 4, none⟩ (.slice qo9 ts.length tc9)).setCell ⟨w.heap.size + 1, 5, none⟩ (.bool bg)).setCell ⟨w.heap.size + 1, 6, none⟩ (.bool bk)).setCell ⟨w.heap.size + 1, 7, none⟩ (.int .i64 z3)).setCell ⟨w.heap.size + 1, 8, none⟩ (.int .i64 hb)).setCell ⟨w.heap.size + 1, 9, none⟩ (.slice ho9 hs.length hc9)) = FW := ⟨_, rfl⟩
        rw [hFW] at HFW HFB HFO ⊢
        obtain ⟨f0, f1, f2, f3, f4, f5, f6, f7, f8, f9, fz⟩ := blk10 HFW.out
        clear hFW
        refine bodyPost_ret (v := .tuple #[.agg #[.int .i64 bud, .slice po9 ps.length pc9, .slice so9 z1.length sc9, .slice wo9 z2.length wc9, .slice qo9 ts.length tc9, .bool bg, .bool bk, .int .i64 z3, .int .i64 hb, .slice ho9 hs.length hc9], .int .i64 0]) (by simp [results, Tryz.results37, go_sem, f0, f1, f2, f3, f4, f5, f6, f7, f8, f9]) rfl ?_
        unfold DoneW
        rw [if_pos HC1.out, HL.out]
        refine ⟨_, rfl, ?_⟩
        rw [HSR.out, HLN.out.2.2.1, HZ.out]
        exact ⟨po9, pc9, so9, sc9, wo9, wc9, qo9, tc9, ho9, hc9, rfl, HFO.out.1, HFO.out.2.1, HFO.out.2.2.1, HFO.out.2.2.2.1, HFO.out.2.2.2.2, HFB.out⟩

      | true =>
        have HSR : Hid (doneS bud ps ss k = (ss.modify k (fun y => { y with client := 0 })).eraseIdx k) := by show _ = _; unfold doneS; rw [HS1.out.2]; simp only [hsr]; rfl
        clear hsr
        have HCL := hideIt (closed_any bud po3 n1 pc3 (some ⟨gs, gf, none⟩) n2 sc3 wo3 n3 wc3 qo3 n4 tc3 bg bk nx hb ho3 n5 hc3 ps (ss.modify k (fun y => { y with client := 0 })) ws ts hs w4 k (own_row HO4.out.1) HLN.out.1 (by omega) (own_row HO4.out.2.1) HS1.out.1 (by omega) (own_row HO4.out.2.2.1) HLN.out.2.2.1 (by omega) (own_row HO4.out.2.2.2.1) HLN.out.2.2.2.1 (by omega) (own_row HO4.out.2.2.2.2) HLN.out.2.2.2.2 (by omega))
        obtain ⟨a0, a1, a2, a3, a4, a5, a6, a7, a8, a9, az⟩ := blk10 HX4.out
        go_wp2_with fail
        refine HCL.out.mono ?_
        rintro e w5 ⟨po5, pc5, so5, sc5, wo5, wc5, qo5, tc5, ho5, hc5, rfl, o0, o1, o2, o3, o4, hb5⟩
        have HB5 := hideIt (nx_trans HB4.out hb5)
        obtain ⟨m2, hm2⟩ : ∃ m2, ((ss.modify k (fun y => { y with client := 0 })).eraseIdx k).length = m2 := ⟨_, rfl⟩
        have hm2l : m2 ≤ n2 := by
          have h := List.length_eraseIdx_le (ss.modify k (fun y => { y with client := 0 })) k
          rw [hm2, HS1.out.1] at h
          exact h
        rw [HLN.out.1] at o0 ⊢
        rw [hm2] at o1 ⊢
        rw [HLN.out.2.2.1] at o2 ⊢
        rw [HLN.out.2.2.2.1] at o3 ⊢
        rw [HLN.out.2.2.2.2] at o4 ⊢
        have HM2 := hideIt hm2
        have hb8 : w5.heap[w3.heap.size]? = some (bWd (.int .i64 bud) (.slice po3 n1 pc3) (.slice (some ⟨gs, gf, none⟩) n2 sc3) (.slice wo3 n3 wc3) (.slice qo3 n4 tc3) (.bool bg) (.bool bk) (.int .i64 nx) (.int .i64 hb) (.slice ho3 n5 hc3)) := blk_nx HX4.out hb5
        obtain ⟨U5, hU5⟩ : ∃ U5, ((((((((((w5.setCell ⟨w3.heap.size, 0, none⟩ (.int .i64 bud)).setCell ⟨w3.heap.size, 1, none⟩ (.slice po5 n1 pc5)).setCell ⟨w3.heap.size, 2, none⟩ (.slice so5 m2 sc5)).setCell ⟨w3.heap.size, 3, none⟩ (.slice wo5 n3 wc5)).setCell ⟨w3.heap.size, 4, none⟩ (.slice qo5 n4 tc5)).setCell ⟨w3.heap.size, 5, none⟩ (.bool bg)).setCell ⟨w3.heap.size, 6, none⟩ (.bool bk)).setCell ⟨w3.heap.size, 7, none⟩ (.int .i64 nx)).setCell ⟨w3.heap.size, 8, none⟩ (.int .i64 hb)).setCell ⟨w3.heap.size, 9, none⟩ (.slice ho5 n5 hc5)) = U5 := ⟨_, rfl⟩
        have hW3 : W.heap.size ≤ w3.heap.size := HB3.out.size
        have hle4 : w.heap.size ≤ w4.heap.size := Nat.le_trans HW.out.2.2.2.size HB4.out.size
        have HU5 : Hid (((((((((((w5.setCell ⟨w3.heap.size, 0, none⟩ (.int .i64 bud)).setCell ⟨w3.heap.size, 1, none⟩ (.slice po5 n1 pc5)).setCell ⟨w3.heap.size, 2, none⟩ (.slice so5 m2 sc5)).setCell ⟨w3.heap.size, 3, none⟩ (.slice wo5 n3 wc5)).setCell ⟨w3.heap.size, 4, none⟩ (.slice qo5 n4 tc5)).setCell ⟨w3.heap.size, 5, none⟩ (.bool bg)).setCell ⟨w3.heap.size, 6, none⟩ (.bool bk)).setCell ⟨w3.heap.size, 7, none⟩ (.int .i64 nx)).setCell ⟨w3.heap.size, 8, none⟩ (.int .i64 hb)).setCell ⟨w3.heap.size, 9, none⟩ (.slice ho5 n5 hc5)) = U5 ∧ U5.heap[w3.heap.size]? = some (bWd (.int .i64 bud) (.slice po5 n1 pc5) (.slice so5 m2 sc5) (.slice wo5 n3 wc5) (.slice qo5 n4 tc5) (.bool bg) (.bool bk) (.int .i64 nx) (.int .i64 hb) (.slice ho5 n5 hc5))) := ⟨hU5, by rw [← hU5]; exact st10_heap hb8 _ _ _ _ _ _ _ _ _ _⟩
        have HB5U : Hid (Below W.heap.size W U5) := by rw [← hU5]; exact st10_bel HB5.out hW3 _ _ _ _ _ _ _ _ _ _
        have HO5 : Hid (U5.ownsRow w.heap.size 70 4 (.slice po5 n1 pc5) n1 (flatP ps) ∧ U5.ownsRow w.heap.size 74 4 (.slice so5 m2 sc5) m2 (flatV ((ss.modify k (fun y => { y with client := 0 })).eraseIdx k)) ∧ U5.ownsRow w.heap.size 76 2 (.slice wo5 n3 wc5) n3 (flatW ws) ∧ U5.ownsRow w.heap.size 72 3 (.slice qo5 n4 tc5) n4 (flatT ts) ∧ U5.ownsRow w.heap.size 70 4 (.slice ho5 n5 hc5) n5 (flatP hs)) := by
          rw [← hU5]
          exact ⟨own_mono (own_st10 o0 (own_ne10 o0 hb8 (by decide)) _ _ _ _ _ _ _ _ _ _) hle4, own_mono (own_st10 o1 (own_ne10 o1 hb8 (by decide)) _ _ _ _ _ _ _ _ _ _) hle4, own_mono (own_st10 o2 (own_ne10 o2 hb8 (by decide)) _ _ _ _ _ _ _ _ _ _) hle4, own_mono (own_st10 o3 (own_ne10 o3 hb8 (by decide)) _ _ _ _ _ _ _ _ _ _) hle4, own_mono (own_st10 o4 (own_ne10 o4 hb8 (by decide)) _ _ _ _ _ _ _ _ _ _) hle4⟩
        clear o0 o1 o2 o3 o4 hb5 hU5 hm2 a0 a1 a2 a3 a4 a5 a6 a7 a8 a9 az
        obtain ⟨a0, a1, a2, a3, a4, a5, a6, a7, a8, a9, az⟩ := blk10 hb8
        clear hb8
        go_upto_region 12 with fail
        rw [HU5.out.1]
        clear a0 a1 a2 a3 a4 a5 a6 a7 a8 a9 az
        have HSV := hideIt (served_any w.heap.size n3 bud po5 n1 pc5 so5 m2 sc5 wo5 n3 wc5 qo5 n4 tc5 bg bk nx hb ho5 n5 hc5 ps ((ss.modify k (fun y => { y with client := 0 })).eraseIdx k) ws ts hs U5 (Nat.le_trans HW.out.2.2.2.size HB5U.out.size) HO5.out.1 HLN.out.1 hq1 HO5.out.2.1 HM2.out (by omega) HO5.out.2.2.1 HLN.out.2.2.1 hq3 HO5.out.2.2.2.1 HLN.out.2.2.2.1 hq4 HO5.out.2.2.2.2 HLN.out.2.2.2.2 hq5 (by rw [HLN.out.2.2.1]; exact Nat.le_refl _) (by omega) hx0 hx1)
        obtain ⟨a0, a1, a2, a3, a4, a5, a6, a7, a8, a9, az⟩ := blk10 HU5.out.2
        go_wp2_with fail
        refine HSV.out.mono ?_
        obtain ⟨⟨z1, z2, z3⟩, hz⟩ : ∃ z, servedR bud ps n3 ((ss.modify k (fun y => { y with client := 0 })).eraseIdx k) ws nx = z := ⟨_, rfl⟩
        rw [hz]
        rintro e w9 ⟨po9, pc9, so9, sc9, wo9, wc9, qo9, tc9, ho9, hc9, rfl, o0, o1, o2, o3, o4, hb9⟩
        simp only at o0 o1 o2 o3 o4 ⊢
        have HB9 := hideIt (nx_trans HB5U.out hb9)
        have HO9 := hideIt (And.intro o0 (And.intro o1 (And.intro o2 (And.intro o3 o4))))
        have HZ := hideIt hz
        clear o0 o1 o2 o3 o4 hb9 hz a0 a1 a2 a3 a4 a5 a6 a7 a8 a9 az
        obtain ⟨r0, r1, r2, r3, r4, r5, r6, r7, r8, r9, rz⟩ := blk10 (blk_nx HW.out.2.2.1 HB9.out)
        have HFO : Hid ((((((((((((w9.setCell ⟨w.heap.size + 1, 0, none⟩ (.int .i64 bud)).setCell ⟨w.heap.size + 1, 1, none⟩ (.slice po9 ps.length pc9)).setCell ⟨w.heap.size + 1, 2, none⟩ (.slice so9 z1.length sc9)).setCell ⟨w.heap.size + 1, 3, none⟩ (.slice wo9 z2.length wc9)).setCell ⟨w.heap.size + 1, 4, none⟩ (.slice qo9 ts.length tc9)).setCell ⟨w.heap.size + 1, 5, none⟩ (.bool bg)).setCell ⟨w.heap.size + 1, 6, none⟩ (.bool bk)).setCell ⟨w.heap.size + 1, 7, none⟩ (.int .i64 z3)).setCell ⟨w.heap.size + 1, 8, none⟩ (.int .i64 hb)).setCell ⟨w.heap.size + 1, 9, none⟩ (.slice ho9 hs.length hc9))).ownsRow w.heap.size 70 4 (.slice po9 ps.length pc9) ps.length (flatP ps) ∧ (((((((((((w9.setCell ⟨w.heap.size + 1, 0, none⟩ (.int .i64 bud)).setCell ⟨w.heap.size + 1, 1, none⟩ (.slice po9 ps.length pc9)).setCell ⟨w.heap.size + 1, 2, none⟩ (.slice so9 z1.length sc9)).setCell ⟨w.heap.size + 1, 3, none⟩ (.slice wo9 z2.length wc9)).setCell ⟨w.heap.size + 1, 4, none⟩ (.slice qo9 ts.length tc9)).setCell ⟨w.heap.size + 1, 5, none⟩ (.bool bg)).setCell ⟨w.heap.size + 1, 6, none⟩ (.bool bk)).setCell ⟨w.heap.size + 1, 7, none⟩ (.int .i64 z3)).setCell ⟨w.heap.size + 1, 8, none⟩ (.int .i64 hb)).setCell ⟨w.heap.size + 1, 9, none⟩ (.slice ho9 hs.length hc9))).ownsRow w.heap.size 74 4 (.slice so9 z1.length sc9) z1.length (flatV z1) ∧ (((((((((((w9.setCell ⟨w.heap.size + 1, 0, none⟩ (.int .i64 bud)).setCell ⟨w.heap.size + 1, 1, none⟩ (.slice po9 ps.length pc9)).setCell ⟨w.heap.size + 1, 2, none⟩ (.slice so9 z1.length sc9)).setCell ⟨w.heap.size + 1, 3, none⟩ (.slice wo9 z2.length wc9)).setCell ⟨w.heap.size + 1, 4, none⟩ (.slice qo9 ts.length tc9)).setCell ⟨w.heap.size + 1, 5, none⟩ (.bool bg)).setCell ⟨w.heap.size + 1, 6, none⟩ (.bool bk)).setCell ⟨w.heap.size + 1, 7, none⟩ (.int .i64 z3)).setCell ⟨w.heap.size + 1, 8, none⟩ (.int .i64 hb)).setCell ⟨w.heap.size + 1, 9, none⟩ (.slice ho9 hs.length hc9))).ownsRow w.heap.size 76 2 (.slice wo9 z2.length wc9) z2.length (flatW z2) ∧ (((((((((((w9.setCell ⟨w.heap.size + 1, 0, none⟩ (.int .i64 bud)).setCell ⟨w.heap.size + 1, 1, none⟩ (.slice po9 ps.length pc9)).setCell ⟨w.heap.size + 1, 2, none⟩ (.slice so9 z1.length sc9)).setCell ⟨w.heap.size + 1, 3, none⟩ (.slice wo9 z2.length wc9)).setCell ⟨w.heap.size + 1, 4, none⟩ (.slice qo9 ts.length tc9)).setCell ⟨w.heap.size + 1, 5, none⟩ (.bool bg)).setCell ⟨w.heap.size + 1, 6, none⟩ (.bool bk)).setCell ⟨w.heap.size + 1, 7, none⟩ (.int .i64 z3)).setCell ⟨w.heap.size + 1, 8, none⟩ (.int .i64 hb)).setCell ⟨w.heap.size + 1, 9, none⟩ (.slice ho9 hs.length hc9))).ownsRow w.heap.size 72 3 (.slice qo9 ts.length tc9) ts.length (flatT ts) ∧ (((((((((((w9.setCell ⟨w.heap.size + 1, 0, none⟩ (.int .i64 bud)).setCell ⟨w.heap.size + 1, 1, none⟩ (.slice po9 ps.length pc9)).setCell ⟨w.heap.size + 1, 2, none⟩ (.slice so9 z1.length sc9)).setCell ⟨w.heap.size + 1, 3, none⟩ (.slice wo9 z2.length wc9)).setCell ⟨w.heap.size + 1, 4, none⟩ (.slice qo9 ts.length tc9)).setCell ⟨w.heap.size + 1, 5, none⟩ (.bool bg)).setCell ⟨w.heap.size + 1, 6, none⟩ (.bool bk)).setCell ⟨w.heap.size + 1, 7, none⟩ (.int .i64 z3)).setCell ⟨w.heap.size + 1, 8, none⟩ (.int .i64 hb)).setCell ⟨w.heap.size + 1, 9, none⟩ (.slice ho9 hs.length hc9))).ownsRow w.heap.size 70 4 (.slice ho9 hs.length hc9) hs.length (flatP hs)) := ⟨own_st10 HO9.out.1 (own_ne10 HO9.out.1 (blk_nx HW.out.2.2.1 HB9.out) (by decide)) _ _ _ _ _ _ _ _ _ _, own_st10 HO9.out.2.1 (own_ne10 HO9.out.2.1 (blk_nx HW.out.2.2.1 HB9.out) (by decide)) _ _ _ _ _ _ _ _ _ _, own_st10 HO9.out.2.2.1 (own_ne10 HO9.out.2.2.1 (blk_nx HW.out.2.2.1 HB9.out) (by decide)) _ _ _ _ _ _ _ _ _ _, own_st10 HO9.out.2.2.2.1 (own_ne10 HO9.out.2.2.2.1 (blk_nx HW.out.2.2.1 HB9.out) (by decide)) _ _ _ _ _ _ _ _ _ _, own_st10 HO9.out.2.2.2.2 (own_ne10 HO9.out.2.2.2.2 (blk_nx HW.out.2.2.1 HB9.out) (by decide)) _ _ _ _ _ _ _ _ _ _⟩
        have HFW : Hid ((((((((((((w9.setCell ⟨w.heap.size + 1, 0, none⟩ (.int .i64 bud)).setCell ⟨w.heap.size + 1, 1, none⟩ (.slice po9 ps.length pc9)).setCell ⟨w.heap.size + 1, 2, none⟩ (.slice so9 z1.length sc9)).setCell ⟨w.heap.size + 1, 3, none⟩ (.slice wo9 z2.length wc9)).setCell ⟨w.heap.size + 1, 4, none⟩ (.slice qo9 ts.length tc9)).setCell ⟨w.heap.size + 1, 5, none⟩ (.bool bg)).setCell ⟨w.heap.size + 1, 6, none⟩ (.bool bk)).setCell ⟨w.heap.size + 1, 7, none⟩ (.int .i64 z3)).setCell ⟨w.heap.size + 1, 8, none⟩ (.int .i64 hb)).setCell ⟨w.heap.size + 1, 9, none⟩ (.slice ho9 hs.length hc9))).heap[w.heap.size + 1]? = some (bWd (.int .i64 bud) (.slice po9 ps.length pc9) (.slice so9 z1.length sc9) (.slice wo9 z2.length wc9) (.slice qo9 ts.length tc9) (.bool bg) (.bool bk) (.int .i64 z3) (.int .i64 hb) (.slice ho9 hs.length hc9))) := st10_heap (blk_nx HW.out.2.2.1 HB9.out) _ _ _ _ _ _ _ _ _ _
        have HFB : Hid (Below w.heap.size w (((((((((((w9.setCell ⟨w.heap.size + 1, 0, none⟩ (.int .i64 bud)).setCell ⟨w.heap.size + 1, 1, none⟩ (.slice po9 ps.length pc9)).setCell ⟨w.heap.size + 1, 2, none⟩ (.slice so9 z1.length sc9)).setCell ⟨w.heap.size + 1, 3, none⟩ (.slice wo9 z2.length wc9)).setCell ⟨w.heap.size + 1, 4, none⟩ (.slice qo9 ts.length tc9)).setCell ⟨w.heap.size + 1, 5, none⟩ (.bool bg)).setCell ⟨w.heap.size + 1, 6, none⟩ (.bool bk)).setCell ⟨w.heap.size + 1, 7, none⟩ (.int .i64 z3)).setCell ⟨w.heap.size + 1, 8, none⟩ (.int .i64 hb)).setCell ⟨w.heap.size + 1, 9, none⟩ (.slice ho9 hs.length hc9)))) := st10_bel (nx_trans HW.out.2.2.2 HB9.out) (by omega) _ _ _ _ _ _ _ _ _ _
        go_wp2_with fail
        obtain ⟨FW, hFW⟩ : ∃ FW, ((((((((((w9.setCell ⟨w.heap.size + 1, 0, none⟩ (.int .i64 bud)).setCell ⟨w.heap.size + 1, 1, none⟩ (.slice po9 ps.length pc9)).setCell ⟨w.heap.size + 1, 2, none⟩ (.slice so9 z1.length sc9)).setCell ⟨w.heap.size + 1, 3, none⟩ (.slice wo9 z2.length wc9)).setCell ⟨w.heap.size + 1, 4, none⟩ (.slice qo9 ts.length tc9)).setCell ⟨w.heap.size + 1, 5, none⟩ (.bool bg)).setCell ⟨w.heap.size + 1, 6, none⟩ (.bool bk)).setCell ⟨w.heap.size + 1, 7, none⟩ (.int .i64 z3)).setCell ⟨w.heap.size + 1, 8, none⟩ (.int .i64 hb)).setCell ⟨w.heap.size + 1, 9, none⟩ (.slice ho9 hs.length hc9)) = FW := ⟨_, rfl⟩
        rw [hFW] at HFW HFB HFO ⊢
        obtain ⟨f0, f1, f2, f3, f4, f5, f6, f7, f8, f9, fz⟩ := blk10 HFW.out
        clear hFW
        refine bodyPost_ret (v := .tuple #[.agg #[.int .i64 bud, .slice po9 ps.length pc9, .slice so9 z1.length sc9, .slice wo9 z2.length wc9, .slice qo9 ts.length tc9, .bool bg, .bool bk, .int .i64 z3, .int .i64 hb, .slice ho9 hs.length hc9], .int .i64 0]) (by simp [results, Tryz.results37, go_sem, f0, f1, f2, f3, f4, f5, f6, f7, f8, f9]) rfl ?_
        unfold DoneW
        rw [if_pos HC1.out, HL.out]
        refine ⟨_, rfl, ?_⟩
        rw [HSR.out, HLN.out.2.2.1, HZ.out]
        exact ⟨po9, pc9, so9, sc9, wo9, wc9, qo9, tc9, ho9, hc9, rfl, HFO.out.1, HFO.out.2.1, HFO.out.2.2.1, HFO.out.2.2.2.1, HFO.out.2.2.2.2, HFB.out⟩

  · rw [decide_eq_false hc1]
    have HC1 := hideIt hc1
    clear hc1
    have HFW : Hid ((((((((((((W.setCell ⟨w.heap.size + 1, 0, none⟩ (.int .i64 bud)).setCell ⟨w.heap.size + 1, 1, none⟩ (.slice po n1 pc)).setCell ⟨w.heap.size + 1, 2, none⟩ (.slice so n2 sc)).setCell ⟨w.heap.size + 1, 3, none⟩ (.slice wo n3 wc)).setCell ⟨w.heap.size + 1, 4, none⟩ (.slice qo n4 tc)).setCell ⟨w.heap.size + 1, 5, none⟩ (.bool bg)).setCell ⟨w.heap.size + 1, 6, none⟩ (.bool bk)).setCell ⟨w.heap.size + 1, 7, none⟩ (.int .i64 nx)).setCell ⟨w.heap.size + 1, 8, none⟩ (.int .i64 hb)).setCell ⟨w.heap.size + 1, 9, none⟩ (.slice ho n5 hc))).heap[w.heap.size + 1]? = some (bWd (.int .i64 bud) (.slice po n1 pc) (.slice so n2 sc) (.slice wo n3 wc) (.slice qo n4 tc) (.bool bg) (.bool bk) (.int .i64 nx) (.int .i64 hb) (.slice ho n5 hc))) := st10_heap (blk_nx HW.out.2.2.1 (Below.refl _ W)) _ _ _ _ _ _ _ _ _ _
    have HFB : Hid (Below w.heap.size w (((((((((((W.setCell ⟨w.heap.size + 1, 0, none⟩ (.int .i64 bud)).setCell ⟨w.heap.size + 1, 1, none⟩ (.slice po n1 pc)).setCell ⟨w.heap.size + 1, 2, none⟩ (.slice so n2 sc)).setCell ⟨w.heap.size + 1, 3, none⟩ (.slice wo n3 wc)).setCell ⟨w.heap.size + 1, 4, none⟩ (.slice qo n4 tc)).setCell ⟨w.heap.size + 1, 5, none⟩ (.bool bg)).setCell ⟨w.heap.size + 1, 6, none⟩ (.bool bk)).setCell ⟨w.heap.size + 1, 7, none⟩ (.int .i64 nx)).setCell ⟨w.heap.size + 1, 8, none⟩ (.int .i64 hb)).setCell ⟨w.heap.size + 1, 9, none⟩ (.slice ho n5 hc)))) := st10_bel (nx_trans HW.out.2.2.2 (Below.refl _ W)) (by omega) _ _ _ _ _ _ _ _ _ _
    go_wp2_with fail
    obtain ⟨FW, hFW⟩ : ∃ FW, ((((((((((W.setCell ⟨w.heap.size + 1, 0, none⟩ (.int .i64 bud)).setCell ⟨w.heap.size + 1, 1, none⟩ (.slice po n1 pc)).setCell ⟨w.heap.size + 1, 2, none⟩ (.slice so n2 sc)).setCell ⟨w.heap.size + 1, 3, none⟩ (.slice wo n3 wc)).setCell ⟨w.heap.size + 1, 4, none⟩ (.slice qo n4 tc)).setCell ⟨w.heap.size + 1, 5, none⟩ (.bool bg)).setCell ⟨w.heap.size + 1, 6, none⟩ (.bool bk)).setCell ⟨w.heap.size + 1, 7, none⟩ (.int .i64 nx)).setCell ⟨w.heap.size + 1, 8, none⟩ (.int .i64 hb)).setCell ⟨w.heap.size + 1, 9, none⟩ (.slice ho n5 hc)) = FW := ⟨_, rfl⟩
    rw [hFW] at HFW HFB ⊢
    obtain ⟨f0, f1, f2, f3, f4, f5, f6, f7, f8, f9, fz⟩ := blk10 HFW.out
    clear hFW
    refine bodyPost_ret (v := .tuple #[.agg #[.int .i64 bud, .slice po n1 pc, .slice so n2 sc, .slice wo n3 wc, .slice qo n4 tc, .bool bg, .bool bk, .int .i64 nx, .int .i64 hb, .slice ho n5 hc], .int .i64 10]) (by simp [results, Tryz.results37, go_sem, f0, f1, f2, f3, f4, f5, f6, f7, f8, f9]) rfl ?_
    unfold DoneW
    rw [if_neg HC1.out]
    exact ⟨rfl, HFB.out⟩
end Lw
end Go.Proofs.YtmmmjpkhnbfnbaaGreat
