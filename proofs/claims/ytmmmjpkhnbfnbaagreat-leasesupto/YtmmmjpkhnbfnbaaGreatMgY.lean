import Derived.Test.YtmmmjpkhnbfnbaaGreatMgX
import Derived.Laws.OwnMore
namespace Go.Proofs.YtmmmjpkhnbfnbaaGreat
open Go.RowKit
namespace Lw
open Co

/-- what lent does to the servers, to those who wait, and to the next number -/
def lentR (bud : Int) (ps : List Pl) (ss : List Srv) (ws : List Wtr) (nx : Int) (i : Nat) (c : Wtr) : Option (List Srv × List Wtr × Int) :=
  match ps.find? (isNameP c.pool) with
  | none => none
  | some x => match ss.findIdx? (isIdle c.pool false) with
    | some k => some (ss.modify k (fun y => { y with client := c.client }), ws.eraseIdx i, nx)
    | none => if x.sz ≤ (cntG (isPoolV c.pool) ss : Int) ∨ bud < (ss.length : Int) then none
      else if (ss.length : Int) < bud then some (ss ++ [⟨nx, x.nm, x.fr, c.client⟩], ws.eraseIdx i, nx + 1)
      else match ss.findIdx? (isIdle ⟨#[]⟩ true) with
        | none => none
        | some k => some (ss.eraseIdx k ++ [⟨nx, x.nm, x.fr, c.client⟩], ws.eraseIdx i, nx + 1)
def LentW (w w' : World) (inp : Value) (bud : Int) (ps : List Pl) (ts : List Stp) (bg bk : Bool) (hb : Int) (hs : List Pl) (r : Option (List Srv × List Wtr × Int)) (e : Ending) : Prop :=
  match r with
  | none => e = .returned (.tuple #[inp, .bool false]) ∧ Below w.heap.size w w'
  | some y => ∃ v, e = .returned (.tuple #[v, .bool true]) ∧ GaveW w w' bud ps y.1 y.2.1 ts bg bk y.2.2 hb hs (.returned v)
theorem fidx_at {α : Type} {p : α → Bool} {l : List α} {k : Nat} (h : l.findIdx? p = some k) : ∃ x, l[k]? = some x ∧ l.find? p = some x := by
  have := List.findIdx?_eq_some_iff_getElem.1 h
  obtain ⟨hk, hp, hj⟩ := this
  refine ⟨l[k], List.getElem?_eq_getElem hk, ?_⟩
  rw [List.find?_eq_some_iff_getElem]
  exact ⟨hp, k, hk, rfl, fun j hj' => by have := hj j hj'; simpa using this⟩
theorem fidx_no {α : Type} {p : α → Bool} {l : List α} (h : l.findIdx? p = none) : l.find? p = none := by
  rw [List.findIdx?_eq_none_iff] at h
  rw [List.find?_eq_none]
  intro x hx
  rw [h x hx]; simp
theorem modify_at {α : Type} (f : α → α) : ∀ {l : List α} {k : Nat} {x : α}, l[k]? = some x → l.modify k f = l.set k (f x)
  | [], k, x, h => by simp at h
  | y :: r, 0, x, h => by
    obtain rfl : y = x := by simpa using h
    rfl
  | y :: r, k + 1, x, h => by
    have ih := modify_at f (l := r) (k := k) (x := x) (by simpa using h)
    simp [ih]
theorem flatV_put : ∀ (l : List Srv) (i : Nat) (x : Srv) (c : Int), l[i]? = some x → (flatV l).set (i * 4 + 3) (.int .i64 c) = flatV (l.set i { x with client := c })
  | [], i, x, c, h => by simp at h
  | y :: l, 0, x, c, h => by
    obtain rfl : y = x := by simpa using h
    rfl
  | y :: l, i + 1, x, c, h => by
    have ih := flatV_put l i x c (by simpa using h)
    have e : (i + 1) * 4 + 3 = (i * 4 + 3) + 1 + 1 + 1 + 1 := by omega
    rw [e]
    show fSv y ++ (flatV l).set (i * 4 + 3) (.int .i64 c) = fSv y ++ flatV (l.set i { x with client := c })
    rw [ih]
theorem blk2w {w : World} {g : Nat} {c0 c1 : Value} {t : TypeId} (h : w.heap[g]? = some (.cells #[c0, c1] t (0, 0))) : w.cell? ⟨g, 0, none⟩ = some c0 ∧ w.cell? ⟨g, 1, none⟩ = some c1 := by
  constructor <;> simp [World.cell?, h]

set_option maxRecDepth 20000 in
set_option maxHeartbeats 8000000 in
theorem lent_any (bud : Int) (po : Option Addr) (n1 pc : Nat) (so : Option Addr) (n2 sc : Nat) (wo : Option Addr) (n3 wc : Nat) (qo : Option Addr) (n4 tc : Nat) (bg bk : Bool) (nx hb : Int) (ho : Option Addr) (n5 hc : Nat) (ps : List Pl) (ss : List Srv) (ws : List Wtr) (ts : List Stp) (hs : List Pl) (w : World) (i : Nat) (cc : Int) (cp : ByteArray) (hr1 : RowAt w (.slice po n1 pc) n1 (flatP ps)) (hn1 : ps.length = n1) (hq1 : n1 ≤ 1099511627776) (hr2 : RowAt w (.slice so n2 sc) n2 (flatV ss)) (hn2 : ss.length = n2) (hq2 : n2 ≤ 1099511627776) (hr3 : RowAt w (.slice wo n3 wc) n3 (flatW ws)) (hn3 : ws.length = n3) (hq3 : n3 ≤ 1099511627776) (hr4 : RowAt w (.slice qo n4 tc) n4 (flatT ts)) (hn4 : ts.length = n4) (hq4 : n4 ≤ 1099511627776) (hr5 : RowAt w (.slice ho n5 hc) n5 (flatP hs)) (hn5 : hs.length = n5) (hq5 : n5 ≤ 1099511627776) (hwi : ws[i]? = some ⟨cc, cp⟩) (hs2 : n2 + 1 ≤ 1099511627776) (hx0 : 0 ≤ nx) (hx1 : nx ≤ 4611686018427387904) :
    Calls Tryz.prog 85 #[.agg #[.int .i64 bud, .slice po n1 pc, .slice so n2 sc, .slice wo n3 wc, .slice qo n4 tc, .bool bg, .bool bk, .int .i64 nx, .int .i64 hb, .slice ho n5 hc], .int .i64 i] w fun e w' => LentW w w' (.agg #[.int .i64 bud, .slice po n1 pc, .slice so n2 sc, .slice wo n3 wc, .slice qo n4 tc, .bool bg, .bool bk, .int .i64 nx, .int .i64 hb, .slice ho n5 hc]) bud ps ts bg bk hb hs (lentR bud ps ss ws nx i ⟨cc, cp⟩) e := by
  obtain ⟨W, hW⟩ : ∃ W, W = ((w.alloc (bWd (.int .i64 bud) (.slice po n1 pc) (.slice so n2 sc) (.slice wo n3 wc) (.slice qo n4 tc) (.bool bg) (.bool bk) (.int .i64 nx) (.int .i64 hb) (.slice ho n5 hc))).alloc zW).alloc (.cells #[.int .i64 cc, .string cp] 76) := ⟨_, rfl⟩
  have hbW : Below w.heap.size w W := by rw [hW]; exact nx_trans (nx_trans (nx_alloc _ _) (nx_alloc _ _)) (nx_alloc _ _)
  have HW : Hid (W = ((w.alloc (bWd (.int .i64 bud) (.slice po n1 pc) (.slice so n2 sc) (.slice wo n3 wc) (.slice qo n4 tc) (.bool bg) (.bool bk) (.int .i64 nx) (.int .i64 hb) (.slice ho n5 hc))).alloc zW).alloc (.cells #[.int .i64 cc, .string cp] 76) ∧ W.heap[w.heap.size]? = some (bWd (.int .i64 bud) (.slice po n1 pc) (.slice so n2 sc) (.slice wo n3 wc) (.slice qo n4 tc) (.bool bg) (.bool bk) (.int .i64 nx) (.int .i64 hb) (.slice ho n5 hc)) ∧ W.heap[w.heap.size + 1]? = some zW ∧ W.heap[w.heap.size + 1 + 1]? = some (.cells #[.int .i64 cc, .string cp] 76) ∧ W.heap.size = w.heap.size + 3 ∧ Below w.heap.size w W) := by
    refine ⟨hW, ?_, ?_, ?_, ?_, hbW⟩
    · rw [hW]; exact (heap_alloc_lt _ _ (by simp; omega)).trans ((heap_alloc_lt _ _ (by simp)).trans (heap_alloc_at _ _ rfl))
    · rw [hW]; exact (heap_alloc_lt _ _ (by simp)).trans (heap_alloc_at _ _ (by simp))
    · rw [hW]; exact heap_alloc_at _ _ (by simp)
    · rw [hW]; simp
  have HAL := hideIt (fun u (hb' : Below W.heap.size W u) => rAt bud po n1 pc cp ps u ((hr1.nx hbW).nx hb') hn1 (by unfold maxLen; omega))
  have HIA := hideIt (fun (q : ByteArray) (al : Bool) u (hb' : Below W.heap.size W u) => rIdle bud po n1 pc so n2 sc wo n3 wc qo n4 tc bg bk nx hb ho n5 hc q al ss u ((hr2.nx hbW).nx hb') hn2 (by unfold maxLen; omega))
  have HCT := hideIt (fun u (hb' : Below W.heap.size W u) => rCount bud po n1 pc so n2 sc wo n3 wc qo n4 tc bg bk nx hb ho n5 hc cp ss u ((hr2.nx hbW).nx hb') hn2 (by unfold maxLen; omega))
  have HLF := hideIt (fun u (hb' : Below W.heap.size W u) => left_any bud po n1 pc so n2 sc wo n3 wc qo n4 tc bg bk nx hb ho n5 hc ps ss ws ts hs u i ((hr1.nx hbW).nx hb') hn1 hq1 ((hr2.nx hbW).nx hb') hn2 hq2 ((hr3.nx hbW).nx hb') hn3 hq3 ((hr4.nx hbW).nx hb') hn4 hq4 ((hr5.nx hbW).nx hb') hn5 hq5)
  have HLN : Hid (ps.length = n1 ∧ ss.length = n2 ∧ ws.length = n3 ∧ ts.length = n4 ∧ hs.length = n5) := ⟨hn1, hn2, hn3, hn4, hn5⟩
  have hin : (i : Int) < (n3 : Int) := by
    have := (List.getElem?_eq_some_iff.1 hwi).1
    rw [hn3] at this
    omega
  have h0i : (0 : Int) ≤ (i : Int) := by omega
  obtain ⟨bl, off, hao, hbl, d0, d1⟩ := wt_at hr3 hwi
  have HPL : Hid (∀ (u : World) (q : Nat) (x : Pl), Below w.heap.size w u → ps[q]? = some x → ∃ b1 f1, po = some ⟨b1, f1, none⟩ ∧ u.cell? ⟨b1, f1 + q * 4 + 1, none⟩ = some (.int .i64 x.sz)) := by
    intro u q x hu hq
    obtain ⟨b1, f1, e, _, _, g1, _, _⟩ := pool_at (hr1.nx hu) hq
    exact ⟨b1, f1, e, g1⟩
  subst hao
  have e0 : ((w.alloc (bWd (.int .i64 bud) (.slice po n1 pc) (.slice so n2 sc) (.slice (some ⟨bl, off, none⟩) n3 wc) (.slice qo n4 tc) (.bool bg) (.bool bk) (.int .i64 nx) (.int .i64 hb) (.slice ho n5 hc))).alloc zW).cell? ⟨bl, off + i * 2, none⟩ = some (.int .i64 cc) := ((nx_trans (nx_alloc w _) (nx_alloc _ _)).cell (p := ⟨bl, off + i * 2, none⟩) hbl).trans d0
  have e1 : ((w.alloc (bWd (.int .i64 bud) (.slice po n1 pc) (.slice so n2 sc) (.slice (some ⟨bl, off, none⟩) n3 wc) (.slice qo n4 tc) (.bool bg) (.bool bk) (.int .i64 nx) (.int .i64 hb) (.slice ho n5 hc))).alloc zW).cell? ⟨bl, off + i * 2 + 1, none⟩ = some (.string cp) := ((nx_trans (nx_alloc w _) (nx_alloc _ _)).cell (p := ⟨bl, off + i * 2 + 1, none⟩) hbl).trans d1
  clear hr1 hn1 hr2 hn2 hr3 hn3 hr4 hn4 hr5 hn5 hW hbW hwi d0 d1
  go_enter Tryz.func85, Tryz.ntmps85
  go_upto_region 2 with fail
  rw [← HW.out.1]
  obtain ⟨a0, a1, a2, a3, a4, a5, a6, a7, a8, a9, az⟩ := blk10 HW.out.2.1
  obtain ⟨c0, c1⟩ := blk2w HW.out.2.2.2.1
  go_wp2_with fail
  refine (HAL.out W (Below.refl _ _)).mono ?_
  rintro e w1 ⟨rfl, hb1⟩
  have HB1 := hideIt hb1
  clear hb1 a0 a1 a2 a3 a4 a5 a6 a7 a8 a9 az c0 c1 e0 e1
  obtain ⟨a0, a1, a2, a3, a4, a5, a6, a7, a8, a9, az⟩ := blk10 (blk_nx HW.out.2.1 HB1.out)
  obtain ⟨r0, r1, r2, r3, r4, r5, r6, r7, r8, r9, rz⟩ := blk10 (blk_nx HW.out.2.2.1 HB1.out)
  obtain ⟨c0, c1⟩ := blk2w (blk_nx HW.out.2.2.2.1 HB1.out)
  cases hp : ps.findIdx? (isNameP cp) with
  | none =>
    have HL : Hid (lentR bud ps ss ws nx i ⟨cc, cp⟩ = none) := by show _ = _; simp only [lentR, fidx_no hp]
    clear hp
    unfold optI
    have HFW : Hid ((((((((((((w1.setCell ⟨w.heap.size + 1, 0, none⟩ (.int .i64 bud)).setCell ⟨w.heap.size + 1, 1, none⟩ (.slice po n1 pc)).setCell ⟨w.heap.size + 1, 2, none⟩ (.slice so n2 sc)).setCell ⟨w.heap.size + 1, 3, none⟩ (.slice (some ⟨bl, off, none⟩) n3 wc)).setCell ⟨w.heap.size + 1, 4, none⟩ (.slice qo n4 tc)).setCell ⟨w.heap.size + 1, 5, none⟩ (.bool bg)).setCell ⟨w.heap.size + 1, 6, none⟩ (.bool bk)).setCell ⟨w.heap.size + 1, 7, none⟩ (.int .i64 nx)).setCell ⟨w.heap.size + 1, 8, none⟩ (.int .i64 hb)).setCell ⟨w.heap.size + 1, 9, none⟩ (.slice ho n5 hc))).heap[w.heap.size + 1]? = some (bWd (.int .i64 bud) (.slice po n1 pc) (.slice so n2 sc) (.slice (some ⟨bl, off, none⟩) n3 wc) (.slice qo n4 tc) (.bool bg) (.bool bk) (.int .i64 nx) (.int .i64 hb) (.slice ho n5 hc))) := st10_heap (blk_nx HW.out.2.2.1 HB1.out) _ _ _ _ _ _ _ _ _ _
    have HFB : Hid (Below w.heap.size w (((((((((((w1.setCell ⟨w.heap.size + 1, 0, none⟩ (.int .i64 bud)).setCell ⟨w.heap.size + 1, 1, none⟩ (.slice po n1 pc)).setCell ⟨w.heap.size + 1, 2, none⟩ (.slice so n2 sc)).setCell ⟨w.heap.size + 1, 3, none⟩ (.slice (some ⟨bl, off, none⟩) n3 wc)).setCell ⟨w.heap.size + 1, 4, none⟩ (.slice qo n4 tc)).setCell ⟨w.heap.size + 1, 5, none⟩ (.bool bg)).setCell ⟨w.heap.size + 1, 6, none⟩ (.bool bk)).setCell ⟨w.heap.size + 1, 7, none⟩ (.int .i64 nx)).setCell ⟨w.heap.size + 1, 8, none⟩ (.int .i64 hb)).setCell ⟨w.heap.size + 1, 9, none⟩ (.slice ho n5 hc)))) := st10_bel (nx_trans HW.out.2.2.2.2.2 HB1.out) (by omega) _ _ _ _ _ _ _ _ _ _
    go_wp2_with fail
    obtain ⟨FW, hFW⟩ : ∃ FW, ((((((((((w1.setCell ⟨w.heap.size + 1, 0, none⟩ (.int .i64 bud)).setCell ⟨w.heap.size + 1, 1, none⟩ (.slice po n1 pc)).setCell ⟨w.heap.size + 1, 2, none⟩ (.slice so n2 sc)).setCell ⟨w.heap.size + 1, 3, none⟩ (.slice (some ⟨bl, off, none⟩) n3 wc)).setCell ⟨w.heap.size + 1, 4, none⟩ (.slice qo n4 tc)).setCell ⟨w.heap.size + 1, 5, none⟩ (.bool bg)).setCell ⟨w.heap.size + 1, 6, none⟩ (.bool bk)).setCell ⟨w.heap.size + 1, 7, none⟩ (.int .i64 nx)).setCell ⟨w.heap.size + 1, 8, none⟩ (.int .i64 hb)).setCell ⟨w.heap.size + 1, 9, none⟩ (.slice ho n5 hc)) = FW := ⟨_, rfl⟩
    rw [hFW] at HFW HFB ⊢
    obtain ⟨f0, f1, f2, f3, f4, f5, f6, f7, f8, f9, fz⟩ := blk10 HFW.out
    clear hFW
    refine bodyPost_ret (v := .tuple #[.agg #[.int .i64 bud, .slice po n1 pc, .slice so n2 sc, .slice (some ⟨bl, off, none⟩) n3 wc, .slice qo n4 tc, .bool bg, .bool bk, .int .i64 nx, .int .i64 hb, .slice ho n5 hc], .bool false]) (by simp [results, Tryz.results85, go_sem, f0, f1, f2, f3, f4, f5, f6, f7, f8, f9]) rfl ?_
    rw [HL.out]
    exact ⟨rfl, HFB.out⟩

  | some p =>
    obtain ⟨x, hx, hfx⟩ := fidx_at hp
    have hpn : (p : Int) < (n1 : Int) := by
      have := (List.getElem?_eq_some_iff.1 hx).1
      rw [HLN.out.1] at this
      omega
    have h0p : (0 : Int) ≤ (p : Int) := by omega
    have hnp : ¬ (p : Int) < 0 := by omega
    have HX := hideIt (And.intro hx hfx)
    clear hx hfx hp
    unfold optI
    go_wp2_with fail
    refine (HIA.out cp false w1 HB1.out).mono ?_
    rintro e w2 ⟨rfl, hb2⟩
    have HB2 := hideIt (nx_trans HB1.out hb2)
    clear hb2
    clear a0 a1 a2 a3 a4 a5 a6 a7 a8 a9 az r0 r1 r2 r3 r4 r5 r6 r7 r8 r9 rz c0 c1
    obtain ⟨a0, a1, a2, a3, a4, a5, a6, a7, a8, a9, az⟩ := blk10 (blk_nx HW.out.2.1 HB2.out)
    obtain ⟨r0, r1, r2, r3, r4, r5, r6, r7, r8, r9, rz⟩ := blk10 (blk_nx HW.out.2.2.1 HB2.out)
    obtain ⟨c0, c1⟩ := blk2w (blk_nx HW.out.2.2.2.1 HB2.out)

    cases hk : ss.findIdx? (isIdle cp false) with
    | some k =>
      obtain ⟨y, hy, _⟩ := fidx_at hk
      have HL : Hid (lentR bud ps ss ws nx i ⟨cc, cp⟩ = some (ss.modify k (fun y => { y with client := cc }), ws.eraseIdx i, nx)) := by
        show _ = _
        simp only [lentR, HX.out.2, hk]
      have hkn : (k : Int) < (n2 : Int) := by
        have := (List.getElem?_eq_some_iff.1 hy).1
        rw [HLN.out.2.1] at this
        omega
      have h0k : (0 : Int) ≤ (k : Int) := by omega
      have HY := hideIt hy
      clear hk hy
      unfold optI
      go_wp2_with fail
      refine (HLF.out w2 HB2.out).mono ?_
      rintro e w3 ⟨po3, pc3, so3, sc3, wo3, wc3, qo3, tc3, ho3, hc3, rfl, o0, o1, o2, o3, o4, hb3⟩
      have HB3 := hideIt (nx_trans HB2.out hb3)
      rw [HLN.out.1] at o0 ⊢
      rw [HLN.out.2.1] at o1 ⊢
      rw [HLN.out.2.2.2.1] at o3 ⊢
      rw [HLN.out.2.2.2.2] at o4 ⊢
      obtain ⟨m3, hm3⟩ : ∃ m3, (ws.eraseIdx i).length = m3 := ⟨_, rfl⟩
      rw [hm3] at o2 ⊢
      have hm3l : m3 ≤ 1099511627776 := by
        have h := List.length_eraseIdx_le ws i
        rw [hm3, HLN.out.2.2.1] at h
        omega
      have HM3 := hideIt hm3
      obtain ⟨U3, hU⟩ : ∃ U3, U3 = w3.alloc (bWd (.int .i64 bud) (.slice po3 n1 pc3) (.slice so3 n2 sc3) (.slice wo3 m3 wc3) (.slice qo3 n4 tc3) (.bool bg) (.bool bk) (.int .i64 nx) (.int .i64 hb) (.slice ho3 n5 hc3)) := ⟨_, rfl⟩
      have HU : Hid (U3 = w3.alloc (bWd (.int .i64 bud) (.slice po3 n1 pc3) (.slice so3 n2 sc3) (.slice wo3 m3 wc3) (.slice qo3 n4 tc3) (.bool bg) (.bool bk) (.int .i64 nx) (.int .i64 hb) (.slice ho3 n5 hc3)) ∧ Below W.heap.size W U3 ∧ U3.heap[w3.heap.size]? = some (bWd (.int .i64 bud) (.slice po3 n1 pc3) (.slice so3 n2 sc3) (.slice wo3 m3 wc3) (.slice qo3 n4 tc3) (.bool bg) (.bool bk) (.int .i64 nx) (.int .i64 hb) (.slice ho3 n5 hc3))) := ⟨hU, by rw [hU]; exact nx_trans HB3.out (nx_alloc _ _), by rw [hU]; exact heap_alloc_at _ _ rfl⟩
      have HO3 : Hid (U3.ownsRow w2.heap.size 70 4 (.slice po3 n1 pc3) n1 (flatP ps) ∧ U3.ownsRow w2.heap.size 74 4 (.slice so3 n2 sc3) n2 (flatV ss) ∧ U3.ownsRow w2.heap.size 76 2 (.slice wo3 m3 wc3) m3 (flatW (ws.eraseIdx i)) ∧ U3.ownsRow w2.heap.size 72 3 (.slice qo3 n4 tc3) n4 (flatT ts) ∧ U3.ownsRow w2.heap.size 70 4 (.slice ho3 n5 hc3) n5 (flatP hs)) := by
        rw [hU]
        exact ⟨own_below o0 (nx_alloc _ _), own_below o1 (nx_alloc _ _), own_below o2 (nx_alloc _ _), own_below o3 (nx_alloc _ _), own_below o4 (nx_alloc _ _)⟩
      clear o0 o1 o2 o3 o4 hb3 hU hm3
      clear a0 a1 a2 a3 a4 a5 a6 a7 a8 a9 az r0 r1 r2 r3 r4 r5 r6 r7 r8 r9 rz c0 c1
      go_upto_region 8 with fail
      rw [← HU.out.1]
      obtain ⟨a0, a1, a2, a3, a4, a5, a6, a7, a8, a9, az⟩ := blk10 HU.out.2.2
      obtain ⟨c0, c1⟩ := blk2w (blk_nx HW.out.2.2.2.1 HU.out.2.1)
      obtain ⟨gs, gf, hgo, hgs, t0, t1, t2, t3⟩ := sv_at (own_row HO3.out.2.1) HY.out
      subst hgo
      have HGF : Hid (gf = 0 ∧ w2.heap.size ≤ gs) := by
        refine ⟨?_, (HO3.out.2.1.lt gs rfl).1⟩
        rcases HO3.out.2.1.2 with ⟨h', _⟩ | ⟨g', cap', cur, h', _⟩
        · simp at h'
        · simp at h'; exact h'.1.2
      have hzf : ∀ a, U3.frozen? ⟨gs, a, none⟩ = false := by
        have h := HO3.out.2.1
        rw [HGF.out.1] at h
        exact fun a => h.frozenAt a
      obtain ⟨X, hX⟩ : ∃ X, X = U3.setCell ⟨gs, gf + k * 4 + 3, none⟩ (.int .i64 cc) := ⟨_, rfl⟩
      have HXX : Hid (X = U3.setCell ⟨gs, gf + k * 4 + 3, none⟩ (.int .i64 cc) ∧ Below W.heap.size W X ∧ X.heap[w3.heap.size]? = some (bWd (.int .i64 bud) (.slice po3 n1 pc3) (.slice (some ⟨gs, gf, none⟩) n2 sc3) (.slice wo3 m3 wc3) (.slice qo3 n4 tc3) (.bool bg) (.bool bk) (.int .i64 nx) (.int .i64 hb) (.slice ho3 n5 hc3))) := by
        have h1 := HGF.out.2
        have h2 := HB2.out.size
        have hne : w3.heap.size ≠ gs := fun e => own_ne10 HO3.out.2.1 HU.out.2.2 (by decide) (by rw [e]; rfl)
        refine ⟨hX, by rw [hX]; exact HU.out.2.1.setCell (by show W.heap.size ≤ gs; omega) _, ?_⟩
        rw [hX]; exact (Below.heap_setCell _ _ _ _ hne).trans HU.out.2.2
      have HOX : Hid (X.ownsRow w2.heap.size 70 4 (.slice po3 n1 pc3) n1 (flatP ps) ∧ X.ownsRow w2.heap.size 74 4 (.slice (some ⟨gs, gf, none⟩) n2 sc3) n2 (flatV (ss.modify k (fun y => { y with client := cc }))) ∧ X.ownsRow w2.heap.size 76 2 (.slice wo3 m3 wc3) m3 (flatW (ws.eraseIdx i)) ∧ X.ownsRow w2.heap.size 72 3 (.slice qo3 n4 tc3) n4 (flatT ts) ∧ X.ownsRow w2.heap.size 70 4 (.slice ho3 n5 hc3) n5 (flatP hs)) := by
        rw [hX]
        refine ⟨own_set1 HO3.out.1 (own_apart HO3.out.2.1 HO3.out.1 (by decide) rfl), ?_, own_set1 HO3.out.2.2.1 (own_apart HO3.out.2.1 HO3.out.2.2.1 (by decide) rfl), own_set1 HO3.out.2.2.2.1 (own_apart HO3.out.2.1 HO3.out.2.2.2.1 (by decide) rfl), own_set1 HO3.out.2.2.2.2 (own_apart HO3.out.2.1 HO3.out.2.2.2.2 (by decide) rfl)⟩
        have h := HO3.out.2.1
        have e := HGF.out.1
        subst e
        rw [modify_at (fun y => { y with client := cc }) HY.out, ← flatV_put _ _ _ cc HY.out]
        have := (h.stored (k * 4 + 3) (.int .i64 cc)).1
        simpa [Nat.add_assoc] using this
      clear hX
      go_upto_region 9 with fail
      rw [← HXX.out.1]
      clear a0 a1 a2 a3 a4 a5 a6 a7 a8 a9 az c0 c1 t0 t1 t2 t3 hzf
      obtain ⟨a0, a1, a2, a3, a4, a5, a6, a7, a8, a9, az⟩ := blk10 HXX.out.2.2
      obtain ⟨r0, r1, r2, r3, r4, r5, r6, r7, r8, r9, rz⟩ := blk10 (blk_nx HW.out.2.2.1 HXX.out.2.1)
      have hsl : (ss.modify k (fun y => { y with client := cc })).length = n2 := by rw [List.length_modify]; exact HLN.out.2.1
      have HSL := hideIt hsl
      clear hsl
      have HFW : Hid ((((((((((((X.setCell ⟨w.heap.size + 1, 0, none⟩ (.int .i64 bud)).setCell ⟨w.heap.size + 1, 1, none⟩ (.slice po3 n1 pc3)).setCell ⟨w.heap.size + 1, 2, none⟩ (.slice (some ⟨gs, gf, none⟩) n2 sc3)).setCell ⟨w.heap.size + 1, 3, none⟩ (.slice wo3 m3 wc3)).setCell ⟨w.heap.size + 1, 4, none⟩ (.slice qo3 n4 tc3)).setCell ⟨w.heap.size + 1, 5, none⟩ (.bool bg)).setCell ⟨w.heap.size + 1, 6, none⟩ (.bool bk)).setCell ⟨w.heap.size + 1, 7, none⟩ (.int .i64 nx)).setCell ⟨w.heap.size + 1, 8, none⟩ (.int .i64 hb)).setCell ⟨w.heap.size + 1, 9, none⟩ (.slice ho3 n5 hc3))).heap[w.heap.size + 1]? = some (bWd (.int .i64 bud) (.slice po3 n1 pc3) (.slice (some ⟨gs, gf, none⟩) n2 sc3) (.slice wo3 m3 wc3) (.slice qo3 n4 tc3) (.bool bg) (.bool bk) (.int .i64 nx) (.int .i64 hb) (.slice ho3 n5 hc3))) := st10_heap (blk_nx HW.out.2.2.1 HXX.out.2.1) _ _ _ _ _ _ _ _ _ _
      have HFB : Hid (Below w.heap.size w (((((((((((X.setCell ⟨w.heap.size + 1, 0, none⟩ (.int .i64 bud)).setCell ⟨w.heap.size + 1, 1, none⟩ (.slice po3 n1 pc3)).setCell ⟨w.heap.size + 1, 2, none⟩ (.slice (some ⟨gs, gf, none⟩) n2 sc3)).setCell ⟨w.heap.size + 1, 3, none⟩ (.slice wo3 m3 wc3)).setCell ⟨w.heap.size + 1, 4, none⟩ (.slice qo3 n4 tc3)).setCell ⟨w.heap.size + 1, 5, none⟩ (.bool bg)).setCell ⟨w.heap.size + 1, 6, none⟩ (.bool bk)).setCell ⟨w.heap.size + 1, 7, none⟩ (.int .i64 nx)).setCell ⟨w.heap.size + 1, 8, none⟩ (.int .i64 hb)).setCell ⟨w.heap.size + 1, 9, none⟩ (.slice ho3 n5 hc3)))) := st10_bel (nx_trans HW.out.2.2.2.2.2 HXX.out.2.1) (by omega) _ _ _ _ _ _ _ _ _ _
      have HFO : Hid ((((((((((((X.setCell ⟨w.heap.size + 1, 0, none⟩ (.int .i64 bud)).setCell ⟨w.heap.size + 1, 1, none⟩ (.slice po3 n1 pc3)).setCell ⟨w.heap.size + 1, 2, none⟩ (.slice (some ⟨gs, gf, none⟩) n2 sc3)).setCell ⟨w.heap.size + 1, 3, none⟩ (.slice wo3 m3 wc3)).setCell ⟨w.heap.size + 1, 4, none⟩ (.slice qo3 n4 tc3)).setCell ⟨w.heap.size + 1, 5, none⟩ (.bool bg)).setCell ⟨w.heap.size + 1, 6, none⟩ (.bool bk)).setCell ⟨w.heap.size + 1, 7, none⟩ (.int .i64 nx)).setCell ⟨w.heap.size + 1, 8, none⟩ (.int .i64 hb)).setCell ⟨w.heap.size + 1, 9, none⟩ (.slice ho3 n5 hc3))).ownsRow w.heap.size 70 4 (.slice po3 n1 pc3) n1 (flatP ps) ∧ (((((((((((X.setCell ⟨w.heap.size + 1, 0, none⟩ (.int .i64 bud)).setCell ⟨w.heap.size + 1, 1, none⟩ (.slice po3 n1 pc3)).setCell ⟨w.heap.size + 1, 2, none⟩ (.slice (some ⟨gs, gf, none⟩) n2 sc3)).setCell ⟨w.heap.size + 1, 3, none⟩ (.slice wo3 m3 wc3)).setCell ⟨w.heap.size + 1, 4, none⟩ (.slice qo3 n4 tc3)).setCell ⟨w.heap.size + 1, 5, none⟩ (.bool bg)).setCell ⟨w.heap.size + 1, 6, none⟩ (.bool bk)).setCell ⟨w.heap.size + 1, 7, none⟩ (.int .i64 nx)).setCell ⟨w.heap.size + 1, 8, none⟩ (.int .i64 hb)).setCell ⟨w.heap.size + 1, 9, none⟩ (.slice ho3 n5 hc3))).ownsRow w.heap.size 74 4 (.slice (some ⟨gs, gf, none⟩) n2 sc3) n2 (flatV (ss.modify k (fun y => { y with client := cc }))) ∧ (((((((((((X.setCell ⟨w.heap.size + 1, 0, none⟩ (.int .i64 bud)).setCell ⟨w.heap.size + 1, 1, none⟩ (.slice po3 n1 pc3)).setCell ⟨w.heap.size + 1, 2, none⟩ (.slice (some ⟨gs, gf, none⟩) n2 sc3)).setCell ⟨w.heap.size + 1, 3, none⟩ (.slice wo3 m3 wc3)).setCell ⟨w.heap.size + 1, 4, none⟩ (.slice qo3 n4 tc3)).setCell ⟨w.heap.size + 1, 5, none⟩ (.bool bg)).setCell ⟨w.heap.size + 1, 6, none⟩ (.bool bk)).setCell ⟨w.heap.size + 1, 7, none⟩ (.int .i64 nx)).setCell ⟨w.heap.size + 1, 8, none⟩ (.int .i64 hb)).setCell ⟨w.heap.size + 1, 9, none⟩ (.slice ho3 n5 hc3))).ownsRow w.heap.size 76 2 (.slice wo3 m3 wc3) m3 (flatW (ws.eraseIdx i)) ∧ (((((((((((X.setCell ⟨w.heap.size + 1, 0, none⟩ (.int .i64 bud)).setCell ⟨w.heap.size + 1, 1, none⟩ (.slice po3 n1 pc3)).setCell ⟨w.heap.size + 1, 2, none⟩ (.slice (some ⟨gs, gf, none⟩) n2 sc3)).setCell ⟨w.heap.size + 1, 3, none⟩ (.slice wo3 m3 wc3)).setCell ⟨w.heap.size + 1, 4, none⟩ (.slice qo3 n4 tc3)).setCell ⟨w.heap.size + 1, 5, none⟩ (.bool bg)).setCell ⟨w.heap.size + 1, 6, none⟩ (.bool bk)).setCell ⟨w.heap.size + 1, 7, none⟩ (.int .i64 nx)).setCell ⟨w.heap.size + 1, 8, none⟩ (.int .i64 hb)).setCell ⟨w.heap.size + 1, 9, none⟩ (.slice ho3 n5 hc3))).ownsRow w.heap.size 72 3 (.slice qo3 n4 tc3) n4 (flatT ts) ∧ (((((((((((X.setCell ⟨w.heap.size + 1, 0, none⟩ (.int .i64 bud)).setCell ⟨w.heap.size + 1, 1, none⟩ (.slice po3 n1 pc3)).setCell ⟨w.heap.size + 1, 2, none⟩ (.slice (some ⟨gs, gf, none⟩) n2 sc3)).setCell ⟨w.heap.size + 1, 3, none⟩ (.slice wo3 m3 wc3)).setCell ⟨w.heap.size + 1, 4, none⟩ (.slice qo3 n4 tc3)).setCell ⟨w.heap.size + 1, 5, none⟩ (.bool bg)).setCell ⟨w.heap.size + 1, 6, none⟩ (.bool bk)).setCell ⟨w.heap.size + 1, 7, none⟩ (.int .i64 nx)).setCell ⟨w.heap.size + 1, 8, none⟩ (.int .i64 hb)).setCell ⟨w.heap.size + 1, 9, none⟩ (.slice ho3 n5 hc3))).ownsRow w.heap.size 70 4 (.slice ho3 n5 hc3) n5 (flatP hs)) := ⟨own_mono (own_st10 HOX.out.1 (own_ne10 HOX.out.1 (blk_nx HW.out.2.2.1 HXX.out.2.1) (by decide)) _ _ _ _ _ _ _ _ _ _) (Nat.le_trans HW.out.2.2.2.2.2.size HB2.out.size), own_mono (own_st10 HOX.out.2.1 (own_ne10 HOX.out.2.1 (blk_nx HW.out.2.2.1 HXX.out.2.1) (by decide)) _ _ _ _ _ _ _ _ _ _) (Nat.le_trans HW.out.2.2.2.2.2.size HB2.out.size), own_mono (own_st10 HOX.out.2.2.1 (own_ne10 HOX.out.2.2.1 (blk_nx HW.out.2.2.1 HXX.out.2.1) (by decide)) _ _ _ _ _ _ _ _ _ _) (Nat.le_trans HW.out.2.2.2.2.2.size HB2.out.size), own_mono (own_st10 HOX.out.2.2.2.1 (own_ne10 HOX.out.2.2.2.1 (blk_nx HW.out.2.2.1 HXX.out.2.1) (by decide)) _ _ _ _ _ _ _ _ _ _) (Nat.le_trans HW.out.2.2.2.2.2.size HB2.out.size), own_mono (own_st10 HOX.out.2.2.2.2 (own_ne10 HOX.out.2.2.2.2 (blk_nx HW.out.2.2.1 HXX.out.2.1) (by decide)) _ _ _ _ _ _ _ _ _ _) (Nat.le_trans HW.out.2.2.2.2.2.size HB2.out.size)⟩
      go_wp2_with fail
      obtain ⟨FW, hFW⟩ : ∃ FW, ((((((((((X.setCell ⟨w.heap.size + 1, 0, none⟩ (.int .i64 bud)).setCell ⟨w.heap.size + 1, 1, none⟩ (.slice po3 n1 pc3)).setCell ⟨w.heap.size + 1, 2, none⟩ (.slice (some ⟨gs, gf, none⟩) n2 sc3)).setCell ⟨w.heap.size + 1, 3, none⟩ (.slice wo3 m3 wc3)).setCell ⟨w.heap.size + 1, 4, none⟩ (.slice qo3 n4 tc3)).setCell ⟨w.heap.size + 1, 5, none⟩ (.bool bg)).setCell ⟨w.heap.size + 1, 6, none⟩ (.bool bk)).setCell ⟨w.heap.size + 1, 7, none⟩ (.int .i64 nx)).setCell ⟨w.heap.size + 1, 8, none⟩ (.int .i64 hb)).setCell ⟨w.heap.size + 1, 9, none⟩ (.slice ho3 n5 hc3)) = FW := ⟨_, rfl⟩
      rw [hFW] at HFW HFB HFO ⊢
      obtain ⟨f0, f1, f2, f3, f4, f5, f6, f7, f8, f9, fz⟩ := blk10 HFW.out
      clear hFW
      refine bodyPost_ret (v := .tuple #[.agg #[.int .i64 bud, .slice po3 n1 pc3, .slice (some ⟨gs, gf, none⟩) n2 sc3, .slice wo3 m3 wc3, .slice qo3 n4 tc3, .bool bg, .bool bk, .int .i64 nx, .int .i64 hb, .slice ho3 n5 hc3], .bool true]) (by simp [results, Tryz.results85, go_sem, f0, f1, f2, f3, f4, f5, f6, f7, f8, f9]) rfl ?_
      rw [HL.out]
      refine ⟨_, rfl, po3, pc3, some ⟨gs, gf, none⟩, sc3, wo3, wc3, qo3, tc3, ho3, hc3, ?_, ?_, ?_, ?_, ?_, ?_, HFB.out⟩
      · simp only [HSL.out, HM3.out, HLN.out.1, HLN.out.2.2.2.1, HLN.out.2.2.2.2]
      · rw [HLN.out.1]; exact HFO.out.1
      · simp only [HSL.out]; exact HFO.out.2.1
      · simp only [HM3.out]; exact HFO.out.2.2.1
      · rw [HLN.out.2.2.2.1]; exact HFO.out.2.2.2.1
      · rw [HLN.out.2.2.2.2]; exact HFO.out.2.2.2.2

    | none =>
      obtain ⟨pb, pf, hpo, g1⟩ := HPL.out w2 p x (nx_trans HW.out.2.2.2.2.2 HB2.out) HX.out.1
      subst hpo
      have HK := hideIt hk
      clear hk
      unfold optI
      go_wp2_with fail
      refine (HCT.out w2 HB2.out).mono ?_
      rintro e w3 ⟨rfl, hb3⟩
      have HB3 := hideIt (nx_trans HB2.out hb3)
      clear hb3 g1
      clear a0 a1 a2 a3 a4 a5 a6 a7 a8 a9 az r0 r1 r2 r3 r4 r5 r6 r7 r8 r9 rz c0 c1
      obtain ⟨a0, a1, a2, a3, a4, a5, a6, a7, a8, a9, az⟩ := blk10 (blk_nx HW.out.2.1 HB3.out)
      obtain ⟨r0, r1, r2, r3, r4, r5, r6, r7, r8, r9, rz⟩ := blk10 (blk_nx HW.out.2.2.1 HB3.out)
      obtain ⟨c0, c1⟩ := blk2w (blk_nx HW.out.2.2.2.1 HB3.out)

      obtain ⟨pb', pf', hpo, g1⟩ := HPL.out w3 p x (nx_trans HW.out.2.2.2.2.2 HB3.out) HX.out.1
      obtain ⟨rfl, rfl⟩ : pb = pb' ∧ pf = pf' := by simpa using hpo
      clear hpo
      obtain ⟨ct, hct⟩ : ∃ ct : Nat, cntG (isPoolV cp) ss = ct := ⟨_, rfl⟩
      rw [hct]
      have HCN := hideIt hct
      clear hct
      obtain ⟨x0, x1, x2, x3⟩ := x
      simp only at g1
      by_cases h1 : x1 ≤ (ct : Int)
      · have HL : Hid (lentR bud ps ss ws nx i ⟨cc, cp⟩ = none) := by show _ = _; simp only [lentR, HX.out.2, HK.out]; rw [if_pos (.inl (by rw [HCN.out]; exact h1))]
        have HFW : Hid ((((((((((((w3.setCell ⟨w.heap.size + 1, 0, none⟩ (.int .i64 bud)).setCell ⟨w.heap.size + 1, 1, none⟩ (.slice (some ⟨pb, pf, none⟩) n1 pc)).setCell ⟨w.heap.size + 1, 2, none⟩ (.slice so n2 sc)).setCell ⟨w.heap.size + 1, 3, none⟩ (.slice (some ⟨bl, off, none⟩) n3 wc)).setCell ⟨w.heap.size + 1, 4, none⟩ (.slice qo n4 tc)).setCell ⟨w.heap.size + 1, 5, none⟩ (.bool bg)).setCell ⟨w.heap.size + 1, 6, none⟩ (.bool bk)).setCell ⟨w.heap.size + 1, 7, none⟩ (.int .i64 nx)).setCell ⟨w.heap.size + 1, 8, none⟩ (.int .i64 hb)).setCell ⟨w.heap.size + 1, 9, none⟩ (.slice ho n5 hc))).heap[w.heap.size + 1]? = some (bWd (.int .i64 bud) (.slice (some ⟨pb, pf, none⟩) n1 pc) (.slice so n2 sc) (.slice (some ⟨bl, off, none⟩) n3 wc) (.slice qo n4 tc) (.bool bg) (.bool bk) (.int .i64 nx) (.int .i64 hb) (.slice ho n5 hc))) := st10_heap (blk_nx HW.out.2.2.1 HB3.out) _ _ _ _ _ _ _ _ _ _
        have HFB : Hid (Below w.heap.size w (((((((((((w3.setCell ⟨w.heap.size + 1, 0, none⟩ (.int .i64 bud)).setCell ⟨w.heap.size + 1, 1, none⟩ (.slice (some ⟨pb, pf, none⟩) n1 pc)).setCell ⟨w.heap.size + 1, 2, none⟩ (.slice so n2 sc)).setCell ⟨w.heap.size + 1, 3, none⟩ (.slice (some ⟨bl, off, none⟩) n3 wc)).setCell ⟨w.heap.size + 1, 4, none⟩ (.slice qo n4 tc)).setCell ⟨w.heap.size + 1, 5, none⟩ (.bool bg)).setCell ⟨w.heap.size + 1, 6, none⟩ (.bool bk)).setCell ⟨w.heap.size + 1, 7, none⟩ (.int .i64 nx)).setCell ⟨w.heap.size + 1, 8, none⟩ (.int .i64 hb)).setCell ⟨w.heap.size + 1, 9, none⟩ (.slice ho n5 hc)))) := st10_bel (nx_trans HW.out.2.2.2.2.2 HB3.out) (by omega) _ _ _ _ _ _ _ _ _ _
        go_wp2_with fail
        obtain ⟨FW, hFW⟩ : ∃ FW, ((((((((((w3.setCell ⟨w.heap.size + 1, 0, none⟩ (.int .i64 bud)).setCell ⟨w.heap.size + 1, 1, none⟩ (.slice (some ⟨pb, pf, none⟩) n1 pc)).setCell ⟨w.heap.size + 1, 2, none⟩ (.slice so n2 sc)).setCell ⟨w.heap.size + 1, 3, none⟩ (.slice (some ⟨bl, off, none⟩) n3 wc)).setCell ⟨w.heap.size + 1, 4, none⟩ (.slice qo n4 tc)).setCell ⟨w.heap.size + 1, 5, none⟩ (.bool bg)).setCell ⟨w.heap.size + 1, 6, none⟩ (.bool bk)).setCell ⟨w.heap.size + 1, 7, none⟩ (.int .i64 nx)).setCell ⟨w.heap.size + 1, 8, none⟩ (.int .i64 hb)).setCell ⟨w.heap.size + 1, 9, none⟩ (.slice ho n5 hc)) = FW := ⟨_, rfl⟩
        rw [hFW] at HFW HFB ⊢
        obtain ⟨f0, f1, f2, f3, f4, f5, f6, f7, f8, f9, fz⟩ := blk10 HFW.out
        clear hFW
        refine bodyPost_ret (v := .tuple #[.agg #[.int .i64 bud, .slice (some ⟨pb, pf, none⟩) n1 pc, .slice so n2 sc, .slice (some ⟨bl, off, none⟩) n3 wc, .slice qo n4 tc, .bool bg, .bool bk, .int .i64 nx, .int .i64 hb, .slice ho n5 hc], .bool false]) (by simp [results, Tryz.results85, go_sem, f0, f1, f2, f3, f4, f5, f6, f7, f8, f9]) rfl ?_
        rw [HL.out]
        exact ⟨rfl, HFB.out⟩
      · by_cases h2 : bud < (n2 : Int)
        · have HL : Hid (lentR bud ps ss ws nx i ⟨cc, cp⟩ = none) := by show _ = _; simp only [lentR, HX.out.2, HK.out]; rw [if_pos (.inr (by rw [HLN.out.2.1]; exact h2))]
          have HFW : Hid ((((((((((((w3.setCell ⟨w.heap.size + 1, 0, none⟩ (.int .i64 bud)).setCell ⟨w.heap.size + 1, 1, none⟩ (.slice (some ⟨pb, pf, none⟩) n1 pc)).setCell ⟨w.heap.size + 1, 2, none⟩ (.slice so n2 sc)).setCell ⟨w.heap.size + 1, 3, none⟩ (.slice (some ⟨bl, off, none⟩) n3 wc)).setCell ⟨w.heap.size + 1, 4, none⟩ (.slice qo n4 tc)).setCell ⟨w.heap.size + 1, 5, none⟩ (.bool bg)).setCell ⟨w.heap.size + 1, 6, none⟩ (.bool bk)).setCell ⟨w.heap.size + 1, 7, none⟩ (.int .i64 nx)).setCell ⟨w.heap.size + 1, 8, none⟩ (.int .i64 hb)).setCell ⟨w.heap.size + 1, 9, none⟩ (.slice ho n5 hc))).heap[w.heap.size + 1]? = some (bWd (.int .i64 bud) (.slice (some ⟨pb, pf, none⟩) n1 pc) (.slice so n2 sc) (.slice (some ⟨bl, off, none⟩) n3 wc) (.slice qo n4 tc) (.bool bg) (.bool bk) (.int .i64 nx) (.int .i64 hb) (.slice ho n5 hc))) := st10_heap (blk_nx HW.out.2.2.1 HB3.out) _ _ _ _ _ _ _ _ _ _
          have HFB : Hid (Below w.heap.size w (((((((((((w3.setCell ⟨w.heap.size + 1, 0, none⟩ (.int .i64 bud)).setCell ⟨w.heap.size + 1, 1, none⟩ (.slice (some ⟨pb, pf, none⟩) n1 pc)).setCell ⟨w.heap.size + 1, 2, none⟩ (.slice so n2 sc)).setCell ⟨w.heap.size + 1, 3, none⟩ (.slice (some ⟨bl, off, none⟩) n3 wc)).setCell ⟨w.heap.size + 1, 4, none⟩ (.slice qo n4 tc)).setCell ⟨w.heap.size + 1, 5, none⟩ (.bool bg)).setCell ⟨w.heap.size + 1, 6, none⟩ (.bool bk)).setCell ⟨w.heap.size + 1, 7, none⟩ (.int .i64 nx)).setCell ⟨w.heap.size + 1, 8, none⟩ (.int .i64 hb)).setCell ⟨w.heap.size + 1, 9, none⟩ (.slice ho n5 hc)))) := st10_bel (nx_trans HW.out.2.2.2.2.2 HB3.out) (by omega) _ _ _ _ _ _ _ _ _ _
          go_wp2_with fail
          obtain ⟨FW, hFW⟩ : ∃ FW, ((((((((((w3.setCell ⟨w.heap.size + 1, 0, none⟩ (.int .i64 bud)).setCell ⟨w.heap.size + 1, 1, none⟩ (.slice (some ⟨pb, pf, none⟩) n1 pc)).setCell ⟨w.heap.size + 1, 2, none⟩ (.slice so n2 sc)).setCell ⟨w.heap.size + 1, 3, none⟩ (.slice (some ⟨bl, off, none⟩) n3 wc)).setCell ⟨w.heap.size + 1, 4, none⟩ (.slice qo n4 tc)).setCell ⟨w.heap.size + 1, 5, none⟩ (.bool bg)).setCell ⟨w.heap.size + 1, 6, none⟩ (.bool bk)).setCell ⟨w.heap.size + 1, 7, none⟩ (.int .i64 nx)).setCell ⟨w.heap.size + 1, 8, none⟩ (.int .i64 hb)).setCell ⟨w.heap.size + 1, 9, none⟩ (.slice ho n5 hc)) = FW := ⟨_, rfl⟩
          rw [hFW] at HFW HFB ⊢
          obtain ⟨f0, f1, f2, f3, f4, f5, f6, f7, f8, f9, fz⟩ := blk10 HFW.out
          clear hFW
          refine bodyPost_ret (v := .tuple #[.agg #[.int .i64 bud, .slice (some ⟨pb, pf, none⟩) n1 pc, .slice so n2 sc, .slice (some ⟨bl, off, none⟩) n3 wc, .slice qo n4 tc, .bool bg, .bool bk, .int .i64 nx, .int .i64 hb, .slice ho n5 hc], .bool false]) (by simp [results, Tryz.results85, go_sem, f0, f1, f2, f3, f4, f5, f6, f7, f8, f9]) rfl ?_
          rw [HL.out]
          exact ⟨rfl, HFB.out⟩
        · by_cases h3 : (n2 : Int) < bud
          · have HL : Hid (lentR bud ps ss ws nx i ⟨cc, cp⟩ = some (ss ++ [⟨nx, x0, x3, cc⟩], ws.eraseIdx i, nx + 1)) := by
              show _ = _
              simp only [lentR, HX.out.2, HK.out]
              rw [if_neg (by rw [HCN.out, HLN.out.2.1]; omega), if_pos (by rw [HLN.out.2.1]; exact h3)]
            go_wp2_with fail
            refine (HLF.out w3 HB3.out).mono ?_
            rintro e w4 ⟨po4, pc4, so4, sc4, wo4, wc4, qo4, tc4, ho4, hc4, rfl, o0, o1, o2, o3, o4, hb4⟩
            have HSS : Hid (ss.length = n2) := HLN.out.2.1
            have hq2' := hq2
            have hs2' := hs2
            have HB4 := hideIt (nx_trans HB3.out hb4)
            rw [HLN.out.1] at o0 ⊢
            rw [HLN.out.2.1] at o1 ⊢
            rw [HLN.out.2.2.2.1] at o3 ⊢
            rw [HLN.out.2.2.2.2] at o4 ⊢
            obtain ⟨m3, hm3⟩ : ∃ m3, (ws.eraseIdx i).length = m3 := ⟨_, rfl⟩
            rw [hm3] at o2 ⊢
            have hm3l : m3 ≤ 1099511627776 := by
              have h := List.length_eraseIdx_le ws i
              rw [hm3, HLN.out.2.2.1] at h
              omega
            have HM3 := hideIt hm3
            obtain ⟨U4, hU⟩ : ∃ U4, U4 = w4.alloc (bWd (.int .i64 bud) (.slice po4 n1 pc4) (.slice so4 n2 sc4) (.slice wo4 m3 wc4) (.slice qo4 n4 tc4) (.bool bg) (.bool bk) (.int .i64 nx) (.int .i64 hb) (.slice ho4 n5 hc4)) := ⟨_, rfl⟩
            have HU : Hid (U4 = w4.alloc (bWd (.int .i64 bud) (.slice po4 n1 pc4) (.slice so4 n2 sc4) (.slice wo4 m3 wc4) (.slice qo4 n4 tc4) (.bool bg) (.bool bk) (.int .i64 nx) (.int .i64 hb) (.slice ho4 n5 hc4)) ∧ Below W.heap.size W U4 ∧ U4.heap[w4.heap.size]? = some (bWd (.int .i64 bud) (.slice po4 n1 pc4) (.slice so4 n2 sc4) (.slice wo4 m3 wc4) (.slice qo4 n4 tc4) (.bool bg) (.bool bk) (.int .i64 nx) (.int .i64 hb) (.slice ho4 n5 hc4))) := ⟨hU, by rw [hU]; exact nx_trans HB4.out (nx_alloc _ _), by rw [hU]; exact heap_alloc_at _ _ rfl⟩
            have HOP := hideIt (opened_any bud po4 n1 pc4 so4 n2 sc4 wo4 m3 wc4 qo4 n4 tc4 bg bk nx hb ho4 n5 hc4 ps (ss) (ws.eraseIdx i) ts hs U4 p ⟨x0, x1, x2, x3⟩ cc (by rw [hU]; exact own_row (own_below o0 (nx_alloc _ _))) HLN.out.1 hq1 (by rw [hU]; exact own_row (own_below o1 (nx_alloc _ _))) HSS.out hq2' (by rw [hU]; exact own_row (own_below o2 (nx_alloc _ _))) hm3 hm3l (by rw [hU]; exact own_row (own_below o3 (nx_alloc _ _))) HLN.out.2.2.2.1 hq4 (by rw [hU]; exact own_row (own_below o4 (nx_alloc _ _))) HLN.out.2.2.2.2 hq5 HX.out.1 hs2' hx0 hx1)
            clear o0 o1 o2 o3 o4 hb4 hU hm3 g1
            clear a0 a1 a2 a3 a4 a5 a6 a7 a8 a9 az r0 r1 r2 r3 r4 r5 r6 r7 r8 r9 rz c0 c1
            go_upto_region 15 with fail
            rw [← HU.out.1]
            obtain ⟨a0, a1, a2, a3, a4, a5, a6, a7, a8, a9, az⟩ := blk10 HU.out.2.2
            obtain ⟨c0, c1⟩ := blk2w (blk_nx HW.out.2.2.2.1 HU.out.2.1)
            go_wp2_with fail
            refine HOP.out.mono ?_
            rintro e w5 ⟨po5, pc5, so5, sc5, wo5, wc5, qo5, tc5, ho5, hc5, rfl, o0, o1, o2, o3, o4, hb5⟩
            have HB5 := hideIt (nx_trans HU.out.2.1 hb5)
            rw [HLN.out.1] at o0 ⊢
            have hsl : ((ss) ++ [(⟨nx, x0, x3, cc⟩ : Srv)]).length = n2 + 1 := by simp [HSS.out]
            rw [hsl] at o1 ⊢
            rw [HM3.out] at o2 ⊢
            rw [HLN.out.2.2.2.1] at o3 ⊢
            rw [HLN.out.2.2.2.2] at o4 ⊢
            have HO5 : Hid (w5.ownsRow U4.heap.size 70 4 (.slice po5 n1 pc5) n1 (flatP ps) ∧ w5.ownsRow U4.heap.size 74 4 (.slice so5 (n2 + 1) sc5) (n2 + 1) (flatV (ss ++ [⟨nx, x0, x3, cc⟩])) ∧ w5.ownsRow U4.heap.size 76 2 (.slice wo5 m3 wc5) m3 (flatW (ws.eraseIdx i)) ∧ w5.ownsRow U4.heap.size 72 3 (.slice qo5 n4 tc5) n4 (flatT ts) ∧ w5.ownsRow U4.heap.size 70 4 (.slice ho5 n5 hc5) n5 (flatP hs)) := ⟨o0, o1, o2, o3, o4⟩
            have HSL := hideIt hsl
            clear o0 o1 o2 o3 o4 hb5 hsl a0 a1 a2 a3 a4 a5 a6 a7 a8 a9 az c0 c1
            obtain ⟨r0, r1, r2, r3, r4, r5, r6, r7, r8, r9, rz⟩ := blk10 (blk_nx HW.out.2.2.1 HB5.out)
            have HFW : Hid ((((((((((((w5.setCell ⟨w.heap.size + 1, 0, none⟩ (.int .i64 bud)).setCell ⟨w.heap.size + 1, 1, none⟩ (.slice po5 n1 pc5)).setCell ⟨w.heap.size + 1, 2, none⟩ (.slice so5 (n2 + 1) sc5)).setCell ⟨w.heap.size + 1, 3, none⟩ (.slice wo5 m3 wc5)).setCell ⟨w.heap.size + 1, 4, none⟩ (.slice qo5 n4 tc5)).setCell ⟨w.heap.size + 1, 5, none⟩ (.bool bg)).setCell ⟨w.heap.size + 1, 6, none⟩ (.bool bk)).setCell ⟨w.heap.size + 1, 7, none⟩ (.int .i64 (nx + 1))).setCell ⟨w.heap.size + 1, 8, none⟩ (.int .i64 hb)).setCell ⟨w.heap.size + 1, 9, none⟩ (.slice ho5 n5 hc5))).heap[w.heap.size + 1]? = some (bWd (.int .i64 bud) (.slice po5 n1 pc5) (.slice so5 (n2 + 1) sc5) (.slice wo5 m3 wc5) (.slice qo5 n4 tc5) (.bool bg) (.bool bk) (.int .i64 (nx + 1)) (.int .i64 hb) (.slice ho5 n5 hc5))) := st10_heap (blk_nx HW.out.2.2.1 HB5.out) _ _ _ _ _ _ _ _ _ _
            have HFB : Hid (Below w.heap.size w (((((((((((w5.setCell ⟨w.heap.size + 1, 0, none⟩ (.int .i64 bud)).setCell ⟨w.heap.size + 1, 1, none⟩ (.slice po5 n1 pc5)).setCell ⟨w.heap.size + 1, 2, none⟩ (.slice so5 (n2 + 1) sc5)).setCell ⟨w.heap.size + 1, 3, none⟩ (.slice wo5 m3 wc5)).setCell ⟨w.heap.size + 1, 4, none⟩ (.slice qo5 n4 tc5)).setCell ⟨w.heap.size + 1, 5, none⟩ (.bool bg)).setCell ⟨w.heap.size + 1, 6, none⟩ (.bool bk)).setCell ⟨w.heap.size + 1, 7, none⟩ (.int .i64 (nx + 1))).setCell ⟨w.heap.size + 1, 8, none⟩ (.int .i64 hb)).setCell ⟨w.heap.size + 1, 9, none⟩ (.slice ho5 n5 hc5)))) := st10_bel (nx_trans HW.out.2.2.2.2.2 HB5.out) (by omega) _ _ _ _ _ _ _ _ _ _
            have HFO : Hid ((((((((((((w5.setCell ⟨w.heap.size + 1, 0, none⟩ (.int .i64 bud)).setCell ⟨w.heap.size + 1, 1, none⟩ (.slice po5 n1 pc5)).setCell ⟨w.heap.size + 1, 2, none⟩ (.slice so5 (n2 + 1) sc5)).setCell ⟨w.heap.size + 1, 3, none⟩ (.slice wo5 m3 wc5)).setCell ⟨w.heap.size + 1, 4, none⟩ (.slice qo5 n4 tc5)).setCell ⟨w.heap.size + 1, 5, none⟩ (.bool bg)).setCell ⟨w.heap.size + 1, 6, none⟩ (.bool bk)).setCell ⟨w.heap.size + 1, 7, none⟩ (.int .i64 (nx + 1))).setCell ⟨w.heap.size + 1, 8, none⟩ (.int .i64 hb)).setCell ⟨w.heap.size + 1, 9, none⟩ (.slice ho5 n5 hc5))).ownsRow w.heap.size 70 4 (.slice po5 n1 pc5) n1 (flatP ps) ∧ (((((((((((w5.setCell ⟨w.heap.size + 1, 0, none⟩ (.int .i64 bud)).setCell ⟨w.heap.size + 1, 1, none⟩ (.slice po5 n1 pc5)).setCell ⟨w.heap.size + 1, 2, none⟩ (.slice so5 (n2 + 1) sc5)).setCell ⟨w.heap.size + 1, 3, none⟩ (.slice wo5 m3 wc5)).setCell ⟨w.heap.size + 1, 4, none⟩ (.slice qo5 n4 tc5)).setCell ⟨w.heap.size + 1, 5, none⟩ (.bool bg)).setCell ⟨w.heap.size + 1, 6, none⟩ (.bool bk)).setCell ⟨w.heap.size + 1, 7, none⟩ (.int .i64 (nx + 1))).setCell ⟨w.heap.size + 1, 8, none⟩ (.int .i64 hb)).setCell ⟨w.heap.size + 1, 9, none⟩ (.slice ho5 n5 hc5))).ownsRow w.heap.size 74 4 (.slice so5 (n2 + 1) sc5) (n2 + 1) (flatV (ss ++ [⟨nx, x0, x3, cc⟩])) ∧ (((((((((((w5.setCell ⟨w.heap.size + 1, 0, none⟩ (.int .i64 bud)).setCell ⟨w.heap.size + 1, 1, none⟩ (.slice po5 n1 pc5)).setCell ⟨w.heap.size + 1, 2, none⟩ (.slice so5 (n2 + 1) sc5)).setCell ⟨w.heap.size + 1, 3, none⟩ (.slice wo5 m3 wc5)).setCell ⟨w.heap.size + 1, 4, none⟩ (.slice qo5 n4 tc5)).setCell ⟨w.heap.size + 1, 5, none⟩ (.bool bg)).setCell ⟨w.heap.size + 1, 6, none⟩ (.bool bk)).setCell ⟨w.heap.size + 1, 7, none⟩ (.int .i64 (nx + 1))).setCell ⟨w.heap.size + 1, 8, none⟩ (.int .i64 hb)).setCell ⟨w.heap.size + 1, 9, none⟩ (.slice ho5 n5 hc5))).ownsRow w.heap.size 76 2 (.slice wo5 m3 wc5) m3 (flatW (ws.eraseIdx i)) ∧ (((((((((((w5.setCell ⟨w.heap.size + 1, 0, none⟩ (.int .i64 bud)).setCell ⟨w.heap.size + 1, 1, none⟩ (.slice po5 n1 pc5)).setCell ⟨w.heap.size + 1, 2, none⟩ (.slice so5 (n2 + 1) sc5)).setCell ⟨w.heap.size + 1, 3, none⟩ (.slice wo5 m3 wc5)).setCell ⟨w.heap.size + 1, 4, none⟩ (.slice qo5 n4 tc5)).setCell ⟨w.heap.size + 1, 5, none⟩ (.bool bg)).setCell ⟨w.heap.size + 1, 6, none⟩ (.bool bk)).setCell ⟨w.heap.size + 1, 7, none⟩ (.int .i64 (nx + 1))).setCell ⟨w.heap.size + 1, 8, none⟩ (.int .i64 hb)).setCell ⟨w.heap.size + 1, 9, none⟩ (.slice ho5 n5 hc5))).ownsRow w.heap.size 72 3 (.slice qo5 n4 tc5) n4 (flatT ts) ∧ (((((((((((w5.setCell ⟨w.heap.size + 1, 0, none⟩ (.int .i64 bud)).setCell ⟨w.heap.size + 1, 1, none⟩ (.slice po5 n1 pc5)).setCell ⟨w.heap.size + 1, 2, none⟩ (.slice so5 (n2 + 1) sc5)).setCell ⟨w.heap.size + 1, 3, none⟩ (.slice wo5 m3 wc5)).setCell ⟨w.heap.size + 1, 4, none⟩ (.slice qo5 n4 tc5)).setCell ⟨w.heap.size + 1, 5, none⟩ (.bool bg)).setCell ⟨w.heap.size + 1, 6, none⟩ (.bool bk)).setCell ⟨w.heap.size + 1, 7, none⟩ (.int .i64 (nx + 1))).setCell ⟨w.heap.size + 1, 8, none⟩ (.int .i64 hb)).setCell ⟨w.heap.size + 1, 9, none⟩ (.slice ho5 n5 hc5))).ownsRow w.heap.size 70 4 (.slice ho5 n5 hc5) n5 (flatP hs)) := ⟨own_mono (own_st10 HO5.out.1 (own_ne10 HO5.out.1 (blk_nx HW.out.2.2.1 HB5.out) (by decide)) _ _ _ _ _ _ _ _ _ _) (Nat.le_trans HW.out.2.2.2.2.2.size HU.out.2.1.size), own_mono (own_st10 HO5.out.2.1 (own_ne10 HO5.out.2.1 (blk_nx HW.out.2.2.1 HB5.out) (by decide)) _ _ _ _ _ _ _ _ _ _) (Nat.le_trans HW.out.2.2.2.2.2.size HU.out.2.1.size), own_mono (own_st10 HO5.out.2.2.1 (own_ne10 HO5.out.2.2.1 (blk_nx HW.out.2.2.1 HB5.out) (by decide)) _ _ _ _ _ _ _ _ _ _) (Nat.le_trans HW.out.2.2.2.2.2.size HU.out.2.1.size), own_mono (own_st10 HO5.out.2.2.2.1 (own_ne10 HO5.out.2.2.2.1 (blk_nx HW.out.2.2.1 HB5.out) (by decide)) _ _ _ _ _ _ _ _ _ _) (Nat.le_trans HW.out.2.2.2.2.2.size HU.out.2.1.size), own_mono (own_st10 HO5.out.2.2.2.2 (own_ne10 HO5.out.2.2.2.2 (blk_nx HW.out.2.2.1 HB5.out) (by decide)) _ _ _ _ _ _ _ _ _ _) (Nat.le_trans HW.out.2.2.2.2.2.size HU.out.2.1.size)⟩
            go_wp2_with fail
            obtain ⟨FW, hFW⟩ : ∃ FW, ((((((((((w5.setCell ⟨w.heap.size + 1, 0, none⟩ (.int .i64 bud)).setCell ⟨w.heap.size + 1, 1, none⟩ (.slice po5 n1 pc5)).setCell ⟨w.heap.size + 1, 2, none⟩ (.slice so5 (n2 + 1) sc5)).setCell ⟨w.heap.size + 1, 3, none⟩ (.slice wo5 m3 wc5)).setCell ⟨w.heap.size + 1, 4, none⟩ (.slice qo5 n4 tc5)).setCell ⟨w.heap.size + 1, 5, none⟩ (.bool bg)).setCell ⟨w.heap.size + 1, 6, none⟩ (.bool bk)).setCell ⟨w.heap.size + 1, 7, none⟩ (.int .i64 (nx + 1))).setCell ⟨w.heap.size + 1, 8, none⟩ (.int .i64 hb)).setCell ⟨w.heap.size + 1, 9, none⟩ (.slice ho5 n5 hc5)) = FW := ⟨_, rfl⟩
            rw [hFW] at HFW HFB HFO ⊢
            obtain ⟨f0, f1, f2, f3, f4, f5, f6, f7, f8, f9, fz⟩ := blk10 HFW.out
            clear hFW
            refine bodyPost_ret (v := .tuple #[.agg #[.int .i64 bud, .slice po5 n1 pc5, .slice so5 (n2 + 1) sc5, .slice wo5 m3 wc5, .slice qo5 n4 tc5, .bool bg, .bool bk, .int .i64 (nx + 1), .int .i64 hb, .slice ho5 n5 hc5], .bool true]) (by simp [results, Tryz.results85, go_sem, f0, f1, f2, f3, f4, f5, f6, f7, f8, f9]) rfl ?_
            rw [HL.out]
            refine ⟨_, rfl, po5, pc5, so5, sc5, wo5, wc5, qo5, tc5, ho5, hc5, ?_, ?_, ?_, ?_, ?_, ?_, HFB.out⟩
            · simp only [HSL.out, HM3.out, HLN.out.1, HLN.out.2.2.2.1, HLN.out.2.2.2.2]
            · rw [HLN.out.1]; exact HFO.out.1
            · simp only [HSL.out]; exact HFO.out.2.1
            · simp only [HM3.out]; exact HFO.out.2.2.1
            · rw [HLN.out.2.2.2.1]; exact HFO.out.2.2.2.1
            · rw [HLN.out.2.2.2.2]; exact HFO.out.2.2.2.2

          · go_wp2_with fail
            refine (HIA.out ⟨#[]⟩ true w3 HB3.out).mono ?_
            rintro e w4 ⟨rfl, hb4⟩
            have HB4 := hideIt (nx_trans HB3.out hb4)
            clear hb4 g1
            clear a0 a1 a2 a3 a4 a5 a6 a7 a8 a9 az r0 r1 r2 r3 r4 r5 r6 r7 r8 r9 rz c0 c1
            obtain ⟨a0, a1, a2, a3, a4, a5, a6, a7, a8, a9, az⟩ := blk10 (blk_nx HW.out.2.1 HB4.out)
            obtain ⟨r0, r1, r2, r3, r4, r5, r6, r7, r8, r9, rz⟩ := blk10 (blk_nx HW.out.2.2.1 HB4.out)
            obtain ⟨c0, c1⟩ := blk2w (blk_nx HW.out.2.2.2.1 HB4.out)
            cases hk2 : ss.findIdx? (isIdle ⟨#[]⟩ true) with
            | none =>
              have HL : Hid (lentR bud ps ss ws nx i ⟨cc, cp⟩ = none) := by
                show _ = _
                simp only [lentR, HX.out.2, HK.out]
                rw [if_neg (by rw [HCN.out, HLN.out.2.1]; omega), if_neg (by rw [HLN.out.2.1]; omega)]
                simp only [hk2]
              clear hk2
              unfold optI
              have HFW : Hid ((((((((((((w4.setCell ⟨w.heap.size + 1, 0, none⟩ (.int .i64 bud)).setCell ⟨w.heap.size + 1, 1, none⟩ (.slice (some ⟨pb, pf, none⟩) n1 pc)).setCell ⟨w.heap.size + 1, 2, none⟩ (.slice so n2 sc)).setCell ⟨w.heap.size + 1, 3, none⟩ (.slice (some ⟨bl, off, none⟩) n3 wc)).setCell ⟨w.heap.size + 1, 4, none⟩ (.slice qo n4 tc)).setCell ⟨w.heap.size + 1, 5, none⟩ (.bool bg)).setCell ⟨w.heap.size + 1, 6, none⟩ (.bool bk)).setCell ⟨w.heap.size + 1, 7, none⟩ (.int .i64 nx)).setCell ⟨w.heap.size + 1, 8, none⟩ (.int .i64 hb)).setCell ⟨w.heap.size + 1, 9, none⟩ (.slice ho n5 hc))).heap[w.heap.size + 1]? = some (bWd (.int .i64 bud) (.slice (some ⟨pb, pf, none⟩) n1 pc) (.slice so n2 sc) (.slice (some ⟨bl, off, none⟩) n3 wc) (.slice qo n4 tc) (.bool bg) (.bool bk) (.int .i64 nx) (.int .i64 hb) (.slice ho n5 hc))) := st10_heap (blk_nx HW.out.2.2.1 HB4.out) _ _ _ _ _ _ _ _ _ _
              have HFB : Hid (Below w.heap.size w (((((((((((w4.setCell ⟨w.heap.size + 1, 0, none⟩ (.int .i64 bud)).setCell ⟨w.heap.size + 1, 1, none⟩ (.slice (some ⟨pb, pf, none⟩) n1 pc)).setCell ⟨w.heap.size + 1, 2, none⟩ (.slice so n2 sc)).setCell ⟨w.heap.size + 1, 3, none⟩ (.slice (some ⟨bl, off, none⟩) n3 wc)).setCell ⟨w.heap.size + 1, 4, none⟩ (.slice qo n4 tc)).setCell ⟨w.heap.size + 1, 5, none⟩ (.bool bg)).setCell ⟨w.heap.size + 1, 6, none⟩ (.bool bk)).setCell ⟨w.heap.size + 1, 7, none⟩ (.int .i64 nx)).setCell ⟨w.heap.size + 1, 8, none⟩ (.int .i64 hb)).setCell ⟨w.heap.size + 1, 9, none⟩ (.slice ho n5 hc)))) := st10_bel (nx_trans HW.out.2.2.2.2.2 HB4.out) (by omega) _ _ _ _ _ _ _ _ _ _
              go_wp2_with fail
              obtain ⟨FW, hFW⟩ : ∃ FW, ((((((((((w4.setCell ⟨w.heap.size + 1, 0, none⟩ (.int .i64 bud)).setCell ⟨w.heap.size + 1, 1, none⟩ (.slice (some ⟨pb, pf, none⟩) n1 pc)).setCell ⟨w.heap.size + 1, 2, none⟩ (.slice so n2 sc)).setCell ⟨w.heap.size + 1, 3, none⟩ (.slice (some ⟨bl, off, none⟩) n3 wc)).setCell ⟨w.heap.size + 1, 4, none⟩ (.slice qo n4 tc)).setCell ⟨w.heap.size + 1, 5, none⟩ (.bool bg)).setCell ⟨w.heap.size + 1, 6, none⟩ (.bool bk)).setCell ⟨w.heap.size + 1, 7, none⟩ (.int .i64 nx)).setCell ⟨w.heap.size + 1, 8, none⟩ (.int .i64 hb)).setCell ⟨w.heap.size + 1, 9, none⟩ (.slice ho n5 hc)) = FW := ⟨_, rfl⟩
              rw [hFW] at HFW HFB ⊢
              obtain ⟨f0, f1, f2, f3, f4, f5, f6, f7, f8, f9, fz⟩ := blk10 HFW.out
              clear hFW
              refine bodyPost_ret (v := .tuple #[.agg #[.int .i64 bud, .slice (some ⟨pb, pf, none⟩) n1 pc, .slice so n2 sc, .slice (some ⟨bl, off, none⟩) n3 wc, .slice qo n4 tc, .bool bg, .bool bk, .int .i64 nx, .int .i64 hb, .slice ho n5 hc], .bool false]) (by simp [results, Tryz.results85, go_sem, f0, f1, f2, f3, f4, f5, f6, f7, f8, f9]) rfl ?_
              rw [HL.out]
              exact ⟨rfl, HFB.out⟩

            | some k =>
              have HL : Hid (lentR bud ps ss ws nx i ⟨cc, cp⟩ = some (ss.eraseIdx k ++ [⟨nx, x0, x3, cc⟩], ws.eraseIdx i, nx + 1)) := by
                show _ = _
                simp only [lentR, HX.out.2, HK.out]
                rw [if_neg (by rw [HCN.out, HLN.out.2.1]; omega), if_neg (by rw [HLN.out.2.1]; omega)]
                simp only [hk2]
              clear hk2
              have hk0 : ¬ (k : Int) < 0 := by omega
              unfold optI
              go_wp2_with fail
              refine (HLF.out w4 HB4.out).mono ?_
              rintro e w5 ⟨po5, pc5, so5, sc5, wo5, wc5, qo5, tc5, ho5, hc5, rfl, o0, o1, o2, o3, o4, hb5⟩
              have HB5 := hideIt (nx_trans HB4.out hb5)
              rw [HLN.out.1] at o0 ⊢
              rw [HLN.out.2.1] at o1 ⊢
              rw [HLN.out.2.2.2.1] at o3 ⊢
              rw [HLN.out.2.2.2.2] at o4 ⊢
              obtain ⟨m3, hm3⟩ : ∃ m3, (ws.eraseIdx i).length = m3 := ⟨_, rfl⟩
              rw [hm3] at o2 ⊢
              have hm3l : m3 ≤ 1099511627776 := by
                have h := List.length_eraseIdx_le ws i
                rw [hm3, HLN.out.2.2.1] at h
                omega
              have HM3 := hideIt hm3
              obtain ⟨U5, hU⟩ : ∃ U5, U5 = w5.alloc (bWd (.int .i64 bud) (.slice po5 n1 pc5) (.slice so5 n2 sc5) (.slice wo5 m3 wc5) (.slice qo5 n4 tc5) (.bool bg) (.bool bk) (.int .i64 nx) (.int .i64 hb) (.slice ho5 n5 hc5)) := ⟨_, rfl⟩
              have HU : Hid (U5 = w5.alloc (bWd (.int .i64 bud) (.slice po5 n1 pc5) (.slice so5 n2 sc5) (.slice wo5 m3 wc5) (.slice qo5 n4 tc5) (.bool bg) (.bool bk) (.int .i64 nx) (.int .i64 hb) (.slice ho5 n5 hc5)) ∧ Below W.heap.size W U5 ∧ U5.heap[w5.heap.size]? = some (bWd (.int .i64 bud) (.slice po5 n1 pc5) (.slice so5 n2 sc5) (.slice wo5 m3 wc5) (.slice qo5 n4 tc5) (.bool bg) (.bool bk) (.int .i64 nx) (.int .i64 hb) (.slice ho5 n5 hc5))) := ⟨hU, by rw [hU]; exact nx_trans HB5.out (nx_alloc _ _), by rw [hU]; exact heap_alloc_at _ _ rfl⟩
              have HCL := hideIt (closed_any bud po5 n1 pc5 so5 n2 sc5 wo5 m3 wc5 qo5 n4 tc5 bg bk nx hb ho5 n5 hc5 ps ss (ws.eraseIdx i) ts hs U5 k (by rw [hU]; exact own_row (own_below o0 (nx_alloc _ _))) HLN.out.1 hq1 (by rw [hU]; exact own_row (own_below o1 (nx_alloc _ _))) HLN.out.2.1 hq2 (by rw [hU]; exact own_row (own_below o2 (nx_alloc _ _))) hm3 hm3l (by rw [hU]; exact own_row (own_below o3 (nx_alloc _ _))) HLN.out.2.2.2.1 hq4 (by rw [hU]; exact own_row (own_below o4 (nx_alloc _ _))) HLN.out.2.2.2.2 hq5)
              clear o0 o1 o2 o3 o4 hb5 hU hm3
              clear a0 a1 a2 a3 a4 a5 a6 a7 a8 a9 az r0 r1 r2 r3 r4 r5 r6 r7 r8 r9 rz c0 c1
              go_upto_region 20 with fail
              rw [← HU.out.1]
              obtain ⟨a0, a1, a2, a3, a4, a5, a6, a7, a8, a9, az⟩ := blk10 HU.out.2.2
              go_wp2_with fail
              refine HCL.out.mono ?_
              rintro e w6 ⟨po6, pc6, so6, sc6, wo6, wc6, qo6, tc6, ho6, hc6, rfl, o0, o1, o2, o3, o4, hb6⟩
              have HB6 := hideIt (nx_trans HU.out.2.1 hb6)
              obtain ⟨m2, hm2⟩ : ∃ m2, (ss.eraseIdx k).length = m2 := ⟨_, rfl⟩
              have hm2l : m2 ≤ n2 := by
                have h := List.length_eraseIdx_le ss k
                rw [hm2, HLN.out.2.1] at h
                exact h
              rw [HLN.out.1] at o0 ⊢
              rw [hm2] at o1 ⊢
              rw [HM3.out] at o2 ⊢
              rw [HLN.out.2.2.2.1] at o3 ⊢
              rw [HLN.out.2.2.2.2] at o4 ⊢
              have HM2 := hideIt hm2
              have hb12 : w6.heap[w5.heap.size]? = some (bWd (.int .i64 bud) (.slice po5 n1 pc5) (.slice so5 n2 sc5) (.slice wo5 m3 wc5) (.slice qo5 n4 tc5) (.bool bg) (.bool bk) (.int .i64 nx) (.int .i64 hb) (.slice ho5 n5 hc5)) := blk_nx HU.out.2.2 hb6
              obtain ⟨U6, hU6⟩ : ∃ U6, ((((((((((w6.setCell ⟨w5.heap.size, 0, none⟩ (.int .i64 bud)).setCell ⟨w5.heap.size, 1, none⟩ (.slice po6 n1 pc6)).setCell ⟨w5.heap.size, 2, none⟩ (.slice so6 m2 sc6)).setCell ⟨w5.heap.size, 3, none⟩ (.slice wo6 m3 wc6)).setCell ⟨w5.heap.size, 4, none⟩ (.slice qo6 n4 tc6)).setCell ⟨w5.heap.size, 5, none⟩ (.bool bg)).setCell ⟨w5.heap.size, 6, none⟩ (.bool bk)).setCell ⟨w5.heap.size, 7, none⟩ (.int .i64 nx)).setCell ⟨w5.heap.size, 8, none⟩ (.int .i64 hb)).setCell ⟨w5.heap.size, 9, none⟩ (.slice ho6 n5 hc6)) = U6 := ⟨_, rfl⟩
              have hW5 : W.heap.size ≤ w5.heap.size := HB5.out.size
              have HU6 : Hid (((((((((((w6.setCell ⟨w5.heap.size, 0, none⟩ (.int .i64 bud)).setCell ⟨w5.heap.size, 1, none⟩ (.slice po6 n1 pc6)).setCell ⟨w5.heap.size, 2, none⟩ (.slice so6 m2 sc6)).setCell ⟨w5.heap.size, 3, none⟩ (.slice wo6 m3 wc6)).setCell ⟨w5.heap.size, 4, none⟩ (.slice qo6 n4 tc6)).setCell ⟨w5.heap.size, 5, none⟩ (.bool bg)).setCell ⟨w5.heap.size, 6, none⟩ (.bool bk)).setCell ⟨w5.heap.size, 7, none⟩ (.int .i64 nx)).setCell ⟨w5.heap.size, 8, none⟩ (.int .i64 hb)).setCell ⟨w5.heap.size, 9, none⟩ (.slice ho6 n5 hc6)) = U6 ∧ Below W.heap.size W U6 ∧ U6.heap[w5.heap.size]? = some (bWd (.int .i64 bud) (.slice po6 n1 pc6) (.slice so6 m2 sc6) (.slice wo6 m3 wc6) (.slice qo6 n4 tc6) (.bool bg) (.bool bk) (.int .i64 nx) (.int .i64 hb) (.slice ho6 n5 hc6))) := ⟨hU6, by rw [← hU6]; exact st10_bel HB6.out hW5 _ _ _ _ _ _ _ _ _ _, by rw [← hU6]; exact st10_heap hb12 _ _ _ _ _ _ _ _ _ _⟩
              have HO6 : Hid (U6.ownsRow U5.heap.size 70 4 (.slice po6 n1 pc6) n1 (flatP ps) ∧ U6.ownsRow U5.heap.size 74 4 (.slice so6 m2 sc6) m2 (flatV (ss.eraseIdx k)) ∧ U6.ownsRow U5.heap.size 76 2 (.slice wo6 m3 wc6) m3 (flatW (ws.eraseIdx i)) ∧ U6.ownsRow U5.heap.size 72 3 (.slice qo6 n4 tc6) n4 (flatT ts) ∧ U6.ownsRow U5.heap.size 70 4 (.slice ho6 n5 hc6) n5 (flatP hs)) := by
                rw [← hU6]
                exact ⟨own_st10 o0 (own_ne10 o0 hb12 (by decide)) _ _ _ _ _ _ _ _ _ _, own_st10 o1 (own_ne10 o1 hb12 (by decide)) _ _ _ _ _ _ _ _ _ _, own_st10 o2 (own_ne10 o2 hb12 (by decide)) _ _ _ _ _ _ _ _ _ _, own_st10 o3 (own_ne10 o3 hb12 (by decide)) _ _ _ _ _ _ _ _ _ _, own_st10 o4 (own_ne10 o4 hb12 (by decide)) _ _ _ _ _ _ _ _ _ _⟩
              have HOP := hideIt (opened_any bud po6 n1 pc6 so6 m2 sc6 wo6 m3 wc6 qo6 n4 tc6 bg bk nx hb ho6 n5 hc6 ps (ss.eraseIdx k) (ws.eraseIdx i) ts hs U6 p ⟨x0, x1, x2, x3⟩ cc (own_row HO6.out.1) HLN.out.1 hq1 (own_row HO6.out.2.1) hm2 (by omega) (own_row HO6.out.2.2.1) HM3.out hm3l (own_row HO6.out.2.2.2.1) HLN.out.2.2.2.1 hq4 (own_row HO6.out.2.2.2.2) HLN.out.2.2.2.2 hq5 HX.out.1 (by omega) hx0 hx1)
              clear o0 o1 o2 o3 o4 hb6 hU6 hm2 a0 a1 a2 a3 a4 a5 a6 a7 a8 a9 az
              obtain ⟨a0, a1, a2, a3, a4, a5, a6, a7, a8, a9, az⟩ := blk10 hb12
              clear hb12
              go_upto_region 21 with fail
              rw [HU6.out.1]
              clear a0 a1 a2 a3 a4 a5 a6 a7 a8 a9 az
              obtain ⟨a0, a1, a2, a3, a4, a5, a6, a7, a8, a9, az⟩ := blk10 HU6.out.2.2
              obtain ⟨c0, c1⟩ := blk2w (blk_nx HW.out.2.2.2.1 HU6.out.2.1)
              go_wp2_with fail
              refine HOP.out.mono ?_
              rintro e w7 ⟨po7, pc7, so7, sc7, wo7, wc7, qo7, tc7, ho7, hc7, rfl, o0, o1, o2, o3, o4, hb7⟩
              have HB7 := hideIt (nx_trans HU6.out.2.1 hb7)
              rw [HLN.out.1] at o0 ⊢
              have hsl : (ss.eraseIdx k ++ [(⟨nx, x0, x3, cc⟩ : Srv)]).length = m2 + 1 := by simp [HM2.out]
              rw [hsl] at o1 ⊢
              rw [HM3.out] at o2 ⊢
              rw [HLN.out.2.2.2.1] at o3 ⊢
              rw [HLN.out.2.2.2.2] at o4 ⊢
              have HO7 : Hid (w7.ownsRow U6.heap.size 70 4 (.slice po7 n1 pc7) n1 (flatP ps) ∧ w7.ownsRow U6.heap.size 74 4 (.slice so7 (m2 + 1) sc7) (m2 + 1) (flatV (ss.eraseIdx k ++ [⟨nx, x0, x3, cc⟩])) ∧ w7.ownsRow U6.heap.size 76 2 (.slice wo7 m3 wc7) m3 (flatW (ws.eraseIdx i)) ∧ w7.ownsRow U6.heap.size 72 3 (.slice qo7 n4 tc7) n4 (flatT ts) ∧ w7.ownsRow U6.heap.size 70 4 (.slice ho7 n5 hc7) n5 (flatP hs)) := ⟨o0, o1, o2, o3, o4⟩
              have HSL := hideIt hsl
              clear o0 o1 o2 o3 o4 hb7 hsl a0 a1 a2 a3 a4 a5 a6 a7 a8 a9 az c0 c1
              obtain ⟨r0, r1, r2, r3, r4, r5, r6, r7, r8, r9, rz⟩ := blk10 (blk_nx HW.out.2.2.1 HB7.out)
              have HFW : Hid ((((((((((((w7.setCell ⟨w.heap.size + 1, 0, none⟩ (.int .i64 bud)).setCell ⟨w.heap.size + 1, 1, none⟩ (.slice po7 n1 pc7)).setCell ⟨w.heap.size + 1, 2, none⟩ (.slice so7 (m2 + 1) sc7)).setCell ⟨w.heap.size + 1, 3, none⟩ (.slice wo7 m3 wc7)).setCell ⟨w.heap.size + 1, 4, none⟩ (.slice qo7 n4 tc7)).setCell ⟨w.heap.size + 1, 5, none⟩ (.bool bg)).setCell ⟨w.heap.size + 1, 6, none⟩ (.bool bk)).setCell ⟨w.heap.size + 1, 7, none⟩ (.int .i64 (nx + 1))).setCell ⟨w.heap.size + 1, 8, none⟩ (.int .i64 hb)).setCell ⟨w.heap.size + 1, 9, none⟩ (.slice ho7 n5 hc7))).heap[w.heap.size + 1]? = some (bWd (.int .i64 bud) (.slice po7 n1 pc7) (.slice so7 (m2 + 1) sc7) (.slice wo7 m3 wc7) (.slice qo7 n4 tc7) (.bool bg) (.bool bk) (.int .i64 (nx + 1)) (.int .i64 hb) (.slice ho7 n5 hc7))) := st10_heap (blk_nx HW.out.2.2.1 HB7.out) _ _ _ _ _ _ _ _ _ _
              have HFB : Hid (Below w.heap.size w (((((((((((w7.setCell ⟨w.heap.size + 1, 0, none⟩ (.int .i64 bud)).setCell ⟨w.heap.size + 1, 1, none⟩ (.slice po7 n1 pc7)).setCell ⟨w.heap.size + 1, 2, none⟩ (.slice so7 (m2 + 1) sc7)).setCell ⟨w.heap.size + 1, 3, none⟩ (.slice wo7 m3 wc7)).setCell ⟨w.heap.size + 1, 4, none⟩ (.slice qo7 n4 tc7)).setCell ⟨w.heap.size + 1, 5, none⟩ (.bool bg)).setCell ⟨w.heap.size + 1, 6, none⟩ (.bool bk)).setCell ⟨w.heap.size + 1, 7, none⟩ (.int .i64 (nx + 1))).setCell ⟨w.heap.size + 1, 8, none⟩ (.int .i64 hb)).setCell ⟨w.heap.size + 1, 9, none⟩ (.slice ho7 n5 hc7)))) := st10_bel (nx_trans HW.out.2.2.2.2.2 HB7.out) (by omega) _ _ _ _ _ _ _ _ _ _
              have HFO : Hid ((((((((((((w7.setCell ⟨w.heap.size + 1, 0, none⟩ (.int .i64 bud)).setCell ⟨w.heap.size + 1, 1, none⟩ (.slice po7 n1 pc7)).setCell ⟨w.heap.size + 1, 2, none⟩ (.slice so7 (m2 + 1) sc7)).setCell ⟨w.heap.size + 1, 3, none⟩ (.slice wo7 m3 wc7)).setCell ⟨w.heap.size + 1, 4, none⟩ (.slice qo7 n4 tc7)).setCell ⟨w.heap.size + 1, 5, none⟩ (.bool bg)).setCell ⟨w.heap.size + 1, 6, none⟩ (.bool bk)).setCell ⟨w.heap.size + 1, 7, none⟩ (.int .i64 (nx + 1))).setCell ⟨w.heap.size + 1, 8, none⟩ (.int .i64 hb)).setCell ⟨w.heap.size + 1, 9, none⟩ (.slice ho7 n5 hc7))).ownsRow w.heap.size 70 4 (.slice po7 n1 pc7) n1 (flatP ps) ∧ (((((((((((w7.setCell ⟨w.heap.size + 1, 0, none⟩ (.int .i64 bud)).setCell ⟨w.heap.size + 1, 1, none⟩ (.slice po7 n1 pc7)).setCell ⟨w.heap.size + 1, 2, none⟩ (.slice so7 (m2 + 1) sc7)).setCell ⟨w.heap.size + 1, 3, none⟩ (.slice wo7 m3 wc7)).setCell ⟨w.heap.size + 1, 4, none⟩ (.slice qo7 n4 tc7)).setCell ⟨w.heap.size + 1, 5, none⟩ (.bool bg)).setCell ⟨w.heap.size + 1, 6, none⟩ (.bool bk)).setCell ⟨w.heap.size + 1, 7, none⟩ (.int .i64 (nx + 1))).setCell ⟨w.heap.size + 1, 8, none⟩ (.int .i64 hb)).setCell ⟨w.heap.size + 1, 9, none⟩ (.slice ho7 n5 hc7))).ownsRow w.heap.size 74 4 (.slice so7 (m2 + 1) sc7) (m2 + 1) (flatV (ss.eraseIdx k ++ [⟨nx, x0, x3, cc⟩])) ∧ (((((((((((w7.setCell ⟨w.heap.size + 1, 0, none⟩ (.int .i64 bud)).setCell ⟨w.heap.size + 1, 1, none⟩ (.slice po7 n1 pc7)).setCell ⟨w.heap.size + 1, 2, none⟩ (.slice so7 (m2 + 1) sc7)).setCell ⟨w.heap.size + 1, 3, none⟩ (.slice wo7 m3 wc7)).setCell ⟨w.heap.size + 1, 4, none⟩ (.slice qo7 n4 tc7)).setCell ⟨w.heap.size + 1, 5, none⟩ (.bool bg)).setCell ⟨w.heap.size + 1, 6, none⟩ (.bool bk)).setCell ⟨w.heap.size + 1, 7, none⟩ (.int .i64 (nx + 1))).setCell ⟨w.heap.size + 1, 8, none⟩ (.int .i64 hb)).setCell ⟨w.heap.size + 1, 9, none⟩ (.slice ho7 n5 hc7))).ownsRow w.heap.size 76 2 (.slice wo7 m3 wc7) m3 (flatW (ws.eraseIdx i)) ∧ (((((((((((w7.setCell ⟨w.heap.size + 1, 0, none⟩ (.int .i64 bud)).setCell ⟨w.heap.size + 1, 1, none⟩ (.slice po7 n1 pc7)).setCell ⟨w.heap.size + 1, 2, none⟩ (.slice so7 (m2 + 1) sc7)).setCell ⟨w.heap.size + 1, 3, none⟩ (.slice wo7 m3 wc7)).setCell ⟨w.heap.size + 1, 4, none⟩ (.slice qo7 n4 tc7)).setCell ⟨w.heap.size + 1, 5, none⟩ (.bool bg)).setCell ⟨w.heap.size + 1, 6, none⟩ (.bool bk)).setCell ⟨w.heap.size + 1, 7, none⟩ (.int .i64 (nx + 1))).setCell ⟨w.heap.size + 1, 8, none⟩ (.int .i64 hb)).setCell ⟨w.heap.size + 1, 9, none⟩ (.slice ho7 n5 hc7))).ownsRow w.heap.size 72 3 (.slice qo7 n4 tc7) n4 (flatT ts) ∧ (((((((((((w7.setCell ⟨w.heap.size + 1, 0, none⟩ (.int .i64 bud)).setCell ⟨w.heap.size + 1, 1, none⟩ (.slice po7 n1 pc7)).setCell ⟨w.heap.size + 1, 2, none⟩ (.slice so7 (m2 + 1) sc7)).setCell ⟨w.heap.size + 1, 3, none⟩ (.slice wo7 m3 wc7)).setCell ⟨w.heap.size + 1, 4, none⟩ (.slice qo7 n4 tc7)).setCell ⟨w.heap.size + 1, 5, none⟩ (.bool bg)).setCell ⟨w.heap.size + 1, 6, none⟩ (.bool bk)).setCell ⟨w.heap.size + 1, 7, none⟩ (.int .i64 (nx + 1))).setCell ⟨w.heap.size + 1, 8, none⟩ (.int .i64 hb)).setCell ⟨w.heap.size + 1, 9, none⟩ (.slice ho7 n5 hc7))).ownsRow w.heap.size 70 4 (.slice ho7 n5 hc7) n5 (flatP hs)) := ⟨own_mono (own_st10 HO7.out.1 (own_ne10 HO7.out.1 (blk_nx HW.out.2.2.1 HB7.out) (by decide)) _ _ _ _ _ _ _ _ _ _) (Nat.le_trans HW.out.2.2.2.2.2.size HU6.out.2.1.size), own_mono (own_st10 HO7.out.2.1 (own_ne10 HO7.out.2.1 (blk_nx HW.out.2.2.1 HB7.out) (by decide)) _ _ _ _ _ _ _ _ _ _) (Nat.le_trans HW.out.2.2.2.2.2.size HU6.out.2.1.size), own_mono (own_st10 HO7.out.2.2.1 (own_ne10 HO7.out.2.2.1 (blk_nx HW.out.2.2.1 HB7.out) (by decide)) _ _ _ _ _ _ _ _ _ _) (Nat.le_trans HW.out.2.2.2.2.2.size HU6.out.2.1.size), own_mono (own_st10 HO7.out.2.2.2.1 (own_ne10 HO7.out.2.2.2.1 (blk_nx HW.out.2.2.1 HB7.out) (by decide)) _ _ _ _ _ _ _ _ _ _) (Nat.le_trans HW.out.2.2.2.2.2.size HU6.out.2.1.size), own_mono (own_st10 HO7.out.2.2.2.2 (own_ne10 HO7.out.2.2.2.2 (blk_nx HW.out.2.2.1 HB7.out) (by decide)) _ _ _ _ _ _ _ _ _ _) (Nat.le_trans HW.out.2.2.2.2.2.size HU6.out.2.1.size)⟩
              go_wp2_with fail
              obtain ⟨FW, hFW⟩ : ∃ FW, ((((((((((w7.setCell ⟨w.heap.size + 1, 0, none⟩ (.int .i64 bud)).setCell ⟨w.heap.size + 1, 1, none⟩ (.slice po7 n1 pc7)).setCell ⟨w.heap.size + 1, 2, none⟩ (.slice so7 (m2 + 1) sc7)).setCell ⟨w.heap.size + 1, 3, none⟩ (.slice wo7 m3 wc7)).setCell ⟨w.heap.size + 1, 4, none⟩ (.slice qo7 n4 tc7)).setCell ⟨w.heap.size + 1, 5, none⟩ (.bool bg)).setCell ⟨w.heap.size + 1, 6, none⟩ (.bool bk)).setCell ⟨w.heap.size + 1, 7, none⟩ (.int .i64 (nx + 1))).setCell ⟨w.heap.size + 1, 8, none⟩ (.int .i64 hb)).setCell ⟨w.heap.size + 1, 9, none⟩ (.slice ho7 n5 hc7)) = FW := ⟨_, rfl⟩
              rw [hFW] at HFW HFB HFO ⊢
              obtain ⟨f0, f1, f2, f3, f4, f5, f6, f7, f8, f9, fz⟩ := blk10 HFW.out
              clear hFW
              refine bodyPost_ret (v := .tuple #[.agg #[.int .i64 bud, .slice po7 n1 pc7, .slice so7 (m2 + 1) sc7, .slice wo7 m3 wc7, .slice qo7 n4 tc7, .bool bg, .bool bk, .int .i64 (nx + 1), .int .i64 hb, .slice ho7 n5 hc7], .bool true]) (by simp [results, Tryz.results85, go_sem, f0, f1, f2, f3, f4, f5, f6, f7, f8, f9]) rfl ?_
              rw [HL.out]
              refine ⟨_, rfl, po7, pc7, so7, sc7, wo7, wc7, qo7, tc7, ho7, hc7, ?_, ?_, ?_, ?_, ?_, ?_, HFB.out⟩
              · simp only [HSL.out, HM3.out, HLN.out.1, HLN.out.2.2.2.1, HLN.out.2.2.2.2]
              · rw [HLN.out.1]; exact HFO.out.1
              · simp only [HSL.out]; exact HFO.out.2.1
              · simp only [HM3.out]; exact HFO.out.2.2.1
              · rw [HLN.out.2.2.2.1]; exact HFO.out.2.2.2.1
              · rw [HLN.out.2.2.2.2]; exact HFO.out.2.2.2.2
end Lw
end Go.Proofs.YtmmmjpkhnbfnbaaGreat
