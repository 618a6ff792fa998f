import Derived.Test.YtmmmjpkhnbfnbaaGreatMgW
namespace Go.Proofs.YtmmmjpkhnbfnbaaGreat
open Go.RowKit
namespace Lw
open Co

/-- an append of one row or more onto a list of one's own -/
theorem appendR {w : World} {ops : Array Oper} {rest : List Oper} {o : Oper} {a : Act} {Q : Exit → Act → World → Prop} (ty tyl : TypeId) (sz bytes : Nat) (z : Value) (hinfo : (Tryz.prog.info? ty).map (fun i => (i.zero, i.size, i.bytes)) = some (some z, sz, bytes)) (hund : Tryz.prog.underlying tyl = some (.slice ty)) (hzs : z.cells.size = sz) (hsz : 0 < sz) (hby : bytes ≤ 64)
    (hgd : o.guard = none) (s x : Operand) (ho : o.op = .call { callee := .builtin .append, args := #[s, x], argTypes := #[tyl, tyl] }) (base : Nat)
    (v : Value) (n : Nat) (xs : List Value) (hs : a.eval s = v) (hown : w.ownsRow base ty sz v n xs)
    (b off : Nat) (m c : Nat) (news : List Value) (hx : a.eval x = .slice (some ⟨b, off, none⟩) m c) (hnl : news.length = m * sz) (hrow : RowAt w (.slice (some ⟨b, off, none⟩) m c) m news) (hone : ∀ u ∈ news, u.oneCell' = true) (hm : 0 < m)
    (h6 : n + m ≤ 1099511627776) (hbase : base ≤ w.heap.size)
    (h : ∀ g cap w', w'.ownsRow base ty sz (.slice (some ⟨g, 0, none⟩) (n + m) cap) (n + m) (xs ++ news) → w.grownBy w' v.ownBlock → (v.ownBlock = some g ∨ g = w.heap.size) → wpList Tryz.prog ops Q rest (a.put o.dst (.slice (some ⟨g, 0, none⟩) (n + m) cap)) w') : wpList Tryz.prog ops Q (o :: rest) a w := by
  obtain ⟨t0, hi, hz0, hz1, hz2⟩ := info_parts hinfo
  refine wpList_plain hgd fun _ hK => wp_append_lies w s x tyl ho base ty t0 z sz bytes hund hi hz0 hz1 hz2 hzs hsz v n xs hs hown ⟨b, off, none⟩ m c news hx hnl ?_ hone hm (by unfold maxLen; omega) ?_ hbase _ rfl fun g cap w' h2 h3 h4 _ => hK _ _ (h g cap w' h2 h3 h4)
  · intro j u hj
    obtain ⟨b', off', e, _, g⟩ := hrow.at hj
    simp only [Option.some.injEq, Addr.mk.injEq, and_true] at e
    obtain ⟨rfl, rfl⟩ := e
    rw [show (⟨b, off, none⟩ : Addr).add j = ⟨b, off + j, none⟩ by unfold Addr.add; split <;> simp_all]
    exact g
  · have : (n + m) * bytes ≤ 1099511627776 * 64 := Nat.mul_le_mul h6 hby
    omega
/-- two lists of one's own of different types lie in different blocks -/
theorem own_apart {u : World} {B B' : Nat} {e e' : TypeId} {sz sz' n n' g : Nat} {v v' : Value} {xs xs' : List Value} (h : u.ownsRow B e sz v n xs) (h' : u.ownsRow B' e' sz' v' n' xs') (ht : e ≠ e') (hv : v.ownBlock = some g) : v'.ownBlock ≠ some g := by
  intro hv'
  obtain ⟨cc, fz, hh⟩ := Go.Lib.ownsRow_kind h g hv
  obtain ⟨cc', fz', hh'⟩ := Go.Lib.ownsRow_kind h' g hv'
  rw [hh] at hh'
  simp at hh'
  exact ht hh'.2.1
theorem own_grown {u v : World} {B B' : Nat} {e e' : TypeId} {sz sz' n n' : Nat} {x x' : Value} {xs xs' : List Value} (h : u.ownsRow B e sz x n xs) (h' : u.ownsRow B' e' sz' x' n' xs') (ht : e ≠ e') (hg : u.grownBy v x'.ownBlock) : v.ownsRow B e sz x n xs :=
  ownG_heap h (fun j hj => hg.block j (h.lt j hj).2 (fun e2 => own_apart h h' ht hj e2.symm))

set_option maxRecDepth 20000 in
set_option maxHeartbeats 8000000 in
theorem opened_any (bud : Int) (po : Option Addr) (n1 pc : Nat) (so : Option Addr) (n2 sc : Nat) (wo : Option Addr) (n3 wc : Nat) (qo : Option Addr) (n4 tc : Nat) (bg bk : Bool) (nx hb : Int) (ho : Option Addr) (n5 hc : Nat) (ps : List Pl) (ss : List Srv) (ws : List Wtr) (ts : List Stp) (hs : List Pl) (w : World) (p : Nat) (x : Pl) (cl : Int) (hr1 : RowAt w (.slice po n1 pc) n1 (flatP ps)) (hn1 : ps.length = n1) (hq1 : n1 ≤ 1099511627776) (hr2 : RowAt w (.slice so n2 sc) n2 (flatV ss)) (hn2 : ss.length = n2) (hq2 : n2 ≤ 1099511627776) (hr3 : RowAt w (.slice wo n3 wc) n3 (flatW ws)) (hn3 : ws.length = n3) (hq3 : n3 ≤ 1099511627776) (hr4 : RowAt w (.slice qo n4 tc) n4 (flatT ts)) (hn4 : ts.length = n4) (hq4 : n4 ≤ 1099511627776) (hr5 : RowAt w (.slice ho n5 hc) n5 (flatP hs)) (hn5 : hs.length = n5) (hq5 : n5 ≤ 1099511627776) (hx : ps[p]? = some x) (hs2 : n2 + 1 ≤ 1099511627776) (hx0 : 0 ≤ nx) (hx1 : nx ≤ 4611686018427387904) :
    Calls Tryz.prog 127 #[.agg #[.int .i64 bud, .slice po n1 pc, .slice so n2 sc, .slice wo n3 wc, .slice qo n4 tc, .bool bg, .bool bk, .int .i64 nx, .int .i64 hb, .slice ho n5 hc], .int .i64 p, .int .i64 cl] w fun e w' => GaveW w w' bud ps (ss ++ [⟨nx, x.nm, x.fr, cl⟩]) ws ts bg bk (nx + 1) hb hs e := by
  obtain ⟨W, hW⟩ : ∃ W, W = (w.alloc (bWd (.int .i64 bud) (.slice po n1 pc) (.slice so n2 sc) (.slice wo n3 wc) (.slice qo n4 tc) (.bool bg) (.bool bk) (.int .i64 nx) (.int .i64 hb) (.slice ho n5 hc))).alloc zW := ⟨_, rfl⟩
  have hbW : Below w.heap.size w W := by rw [hW]; exact nx_trans (nx_alloc _ _) (nx_alloc _ _)
  have HW : Hid (W = (w.alloc (bWd (.int .i64 bud) (.slice po n1 pc) (.slice so n2 sc) (.slice wo n3 wc) (.slice qo n4 tc) (.bool bg) (.bool bk) (.int .i64 nx) (.int .i64 hb) (.slice ho n5 hc))).alloc zW ∧ W.heap[w.heap.size]? = some (bWd (.int .i64 bud) (.slice po n1 pc) (.slice so n2 sc) (.slice wo n3 wc) (.slice qo n4 tc) (.bool bg) (.bool bk) (.int .i64 nx) (.int .i64 hb) (.slice ho n5 hc)) ∧ W.heap[w.heap.size + 1]? = some zW ∧ W.heap.size = w.heap.size + 2 ∧ Below w.heap.size w W) := by
    refine ⟨hW, ?_, ?_, ?_, hbW⟩
    · rw [hW]; exact (heap_alloc_lt _ _ (by simp)).trans (heap_alloc_at _ _ rfl)
    · rw [hW]; exact heap_alloc_at _ _ (by simp)
    · rw [hW]; simp
  have HCO := hideIt (copied_any bud po n1 pc so n2 sc wo n3 wc qo n4 tc bg bk nx hb ho n5 hc ps ss ws ts hs W (hr1.nx hbW) hn1 hq1 (hr2.nx hbW) hn2 hq2 (hr3.nx hbW) hn3 hq3 (hr4.nx hbW) hn4 hq4 (hr5.nx hbW) hn5 hq5)
  have HLN : Hid (ps.length = n1 ∧ ss.length = n2 ∧ ws.length = n3 ∧ ts.length = n4 ∧ hs.length = n5) := ⟨hn1, hn2, hn3, hn4, hn5⟩
  have hpn : (p : Int) < (n1 : Int) := by
    have := (List.getElem?_eq_some_iff.1 hx).1
    rw [hn1] at this
    omega
  have h0p : (0 : Int) ≤ (p : Int) := by omega
  obtain ⟨bl, off, hao, hbl, d0, d1, d2, d3⟩ := pool_at hr1 hx
  subst hao
  obtain ⟨x0, x1, x2, x3⟩ := x
  have HD : Hid (∀ u : World, Below w.heap.size w u → u.cell? ⟨bl, off + p * 4, none⟩ = some (.string x0) ∧ u.cell? ⟨bl, off + p * 4 + 1, none⟩ = some (.int .i64 x1) ∧ u.cell? ⟨bl, off + p * 4 + 2, none⟩ = some (.int .i64 x2) ∧ u.cell? ⟨bl, off + p * 4 + 3, none⟩ = some (.int .i64 x3)) := by
    intro u hu
    have e : u.heap[bl]? = w.heap[bl]? := hu.block bl hbl
    exact ⟨(World.cell?_of_block e).trans d0, (World.cell?_of_block e).trans d1, (World.cell?_of_block e).trans d2, (World.cell?_of_block e).trans d3⟩
  clear hr1 hn1 hr2 hn2 hr3 hn3 hr4 hn4 hr5 hn5 hW hbW hx d0 d1 d2 d3
  go_enter Tryz.func127, Tryz.ntmps127
  go_wp2_with fail
  rw [← HW.out.1]
  refine HCO.out.mono ?_
  rintro e w1 ⟨po', pc', so', sc', wo', wc', qo', tc', ho', hc', rfl, o0, o1, o2, o3, o4, hb1⟩
  obtain ⟨U, hU⟩ : ∃ U, U = w1.alloc (bWd (.int .i64 bud) (.slice po' n1 pc') (.slice so' n2 sc') (.slice wo' n3 wc') (.slice qo' n4 tc') (.bool bg) (.bool bk) (.int .i64 nx) (.int .i64 hb) (.slice ho' n5 hc')) := ⟨_, rfl⟩
  have HB1 : Hid (Below w.heap.size w w1 ∧ Below W.heap.size W w1) := ⟨nx_trans HW.out.2.2.2.2 hb1, hb1⟩
  have HU : Hid (U = w1.alloc (bWd (.int .i64 bud) (.slice po' n1 pc') (.slice so' n2 sc') (.slice wo' n3 wc') (.slice qo' n4 tc') (.bool bg) (.bool bk) (.int .i64 nx) (.int .i64 hb) (.slice ho' n5 hc')) ∧ CP w (bWd (.int .i64 bud) (.slice (some ⟨bl, off, none⟩) n1 pc) (.slice so n2 sc) (.slice wo n3 wc) (.slice qo n4 tc) (.bool bg) (.bool bk) (.int .i64 nx) (.int .i64 hb) (.slice ho n5 hc)) w1.heap.size (bWd (.int .i64 bud) (.slice po' n1 pc') (.slice so' n2 sc') (.slice wo' n3 wc') (.slice qo' n4 tc') (.bool bg) (.bool bk) (.int .i64 nx) (.int .i64 hb) (.slice ho' n5 hc')) U) := by
    have hzW := HW.out.2.2.2.1
    have hz1 := hb1.size
    refine ⟨hU, ⟨?_, ?_, ?_, ?_, by omega⟩⟩
    · rw [hU]; exact blk_nx (blk_nx HW.out.2.1 hb1) (nx_alloc _ _)
    · rw [hU]; exact blk_nx (blk_nx HW.out.2.2.1 hb1) (nx_alloc _ _)
    · rw [hU]; exact heap_alloc_at _ _ rfl
    · rw [hU]; exact nx_trans HW.out.2.2.2.2 (nx_trans hb1 (nx_alloc _ _))
  have HOA : Hid (U.ownsRow W.heap.size 70 4 (.slice po' n1 pc') n1 (flatP ps) ∧ U.ownsRow W.heap.size 74 4 (.slice so' n2 sc') n2 (flatV ss) ∧ U.ownsRow W.heap.size 76 2 (.slice wo' n3 wc') n3 (flatW ws) ∧ U.ownsRow W.heap.size 72 3 (.slice qo' n4 tc') n4 (flatT ts) ∧ U.ownsRow W.heap.size 70 4 (.slice ho' n5 hc') n5 (flatP hs)) := by
    rw [hU]
    exact ⟨own_below o0 (nx_alloc _ _), own_below o1 (nx_alloc _ _), own_below o2 (nx_alloc _ _), own_below o3 (nx_alloc _ _), own_below o4 (nx_alloc _ _)⟩
  clear o0 o1 o2 o3 o4 hb1 hU
  go_upto_region 2 with fail
  rw [← HU.out.1]
  obtain ⟨a0, a1, a2, a3, a4, a5, a6, a7, a8, a9, az⟩ := blk10 HU.out.2.h0
  obtain ⟨e0, e1, e2, e3, e4, e5, e6, e7, e8, e9, ez⟩ := blk10 HU.out.2.h2
  obtain ⟨d0, d1, d2, d3⟩ := HD.out U HU.out.2.bel
  have hgU : w1.heap.size < U.heap.size := (Array.getElem?_eq_some_iff.1 HU.out.2.h2).1
  obtain ⟨V, hV⟩ : ∃ V, V = U.alloc (bPl ⟨x0, x1, x2, x3⟩) := ⟨_, rfl⟩
  have HV : Hid (V = U.alloc (bPl ⟨x0, x1, x2, x3⟩) ∧ Below U.heap.size U V ∧ V.heap[U.heap.size]? = some (bPl ⟨x0, x1, x2, x3⟩)) := ⟨hV, by rw [hV]; exact nx_alloc _ _, by rw [hV]; exact heap_alloc_at _ _ rfl⟩
  clear hV
  go_upto_region 3 with fail
  rw [← HV.out.1]
  clear a0 a1 a2 a3 a4 a5 a6 a7 a8 a9 az e0 e1 e2 e3 e4 e5 e6 e7 e8 e9 ez d0 d1 d2 d3
  obtain ⟨a0, a1, a2, a3, a4, a5, a6, a7, a8, a9, az⟩ := blk10 (blk_nx HU.out.2.h0 HV.out.2.1)
  obtain ⟨e0, e1, e2, e3, e4, e5, e6, e7, e8, e9, ez⟩ := blk10 (blk_nx HU.out.2.h2 HV.out.2.1)
  obtain ⟨y0, y1, y2, y3, yz⟩ := blk4 (Below.refl V.heap.size V) (Array.getElem?_eq_some_iff.1 HV.out.2.2).1 HV.out.2.2
  have HOV := hideIt (own_below HOA.out.2.1 HV.out.2.1)
  have hVz : W.heap.size ≤ V.heap.size := Nat.le_trans HB1.out.2.size (Nat.le_trans (Nat.le_of_lt hgU) HV.out.2.1.size)
  have hgV : w1.heap.size < V.heap.size := Nat.lt_of_lt_of_le hgU HV.out.2.1.size
  go_wp2_with (at_builtin; refine appendR 74 32 4 40 _ infr_V Tryz.underlying32 rfl (by decide) (by decide) rfl (.tmp 20) (.tmp 29) rfl W.heap.size _ n2 (flatV ss) rfl (HOV.out.alloc _) V.heap.size 0 1 1 [.int .i64 nx, .string x0, .int .i64 x3, .int .i64 cl] rfl rfl (row_new V [.int .i64 nx, .string x0, .int .i64 x3, .int .i64 cl] _ 1 rfl) (by intro u hu; simp at hu; rcases hu with rfl | rfl | rfl | rfl <;> rfl) (by decide) hs2 (by simp; omega) ?next)
  case next =>
    intro g6 cap6 w6 hown6 hg6 hor
    have hlow : ∀ b o, V.heap[b]? = some o → (Value.slice so' n2 sc').ownBlock ≠ some b → w6.heap[b]? = some o := fun b o h hne => (hg6.block b (by have := (Array.getElem?_eq_some_iff.1 h).1; simp; omega) (fun e => hne e.symm)).trans ((heap_alloc_lt _ _ (Array.getElem?_eq_some_iff.1 h).1).trans h)
    have nso := own_ne10 HOA.out.2.1 HU.out.2.h2 (by decide)
    have h63 : w6.heap[w1.heap.size]? = some (bWd (.int .i64 bud) (.slice po' n1 pc') (.slice so' n2 sc') (.slice wo' n3 wc') (.slice qo' n4 tc') (.bool bg) (.bool bk) (.int .i64 nx) (.int .i64 hb) (.slice ho' n5 hc')) := hlow _ _ (blk_nx HU.out.2.h2 HV.out.2.1) nso
    obtain ⟨k0, k1, k2, k3, k4, k5, k6, k7, k8, k9, kz⟩ := blk10 h63
    obtain ⟨V6, hV6⟩ : ∃ V6, V6 = (w6.setCell ⟨w1.heap.size, 2, none⟩ (.slice (some ⟨g6, 0, none⟩) (n2 + 1) cap6)).setCell ⟨w1.heap.size, 7, none⟩ (.int .i64 (nx + 1)) := ⟨_, rfl⟩
    have H60 : w6.heap[w.heap.size]? = some (bWd (.int .i64 bud) (.slice (some ⟨bl, off, none⟩) n1 pc) (.slice so n2 sc) (.slice wo n3 wc) (.slice qo n4 tc) (.bool bg) (.bool bk) (.int .i64 nx) (.int .i64 hb) (.slice ho n5 hc)) := hlow _ _ (blk_nx HU.out.2.h0 HV.out.2.1) (fun e => by have h1 := (HOA.out.2.1.lt _ e).1; have h2 := HW.out.2.2.2.1; omega)
    have H61 : w6.heap[w.heap.size + 1]? = some zW := hlow _ _ (blk_nx HU.out.2.h1 HV.out.2.1) (fun e => by have h1 := (HOA.out.2.1.lt _ e).1; have h2 := HW.out.2.2.2.1; omega)
    have HC : Hid (V6 = (w6.setCell ⟨w1.heap.size, 2, none⟩ (.slice (some ⟨g6, 0, none⟩) (n2 + 1) cap6)).setCell ⟨w1.heap.size, 7, none⟩ (.int .i64 (nx + 1)) ∧ CP w (bWd (.int .i64 bud) (.slice (some ⟨bl, off, none⟩) n1 pc) (.slice so n2 sc) (.slice wo n3 wc) (.slice qo n4 tc) (.bool bg) (.bool bk) (.int .i64 nx) (.int .i64 hb) (.slice ho n5 hc)) w1.heap.size (bWd (.int .i64 bud) (.slice po' n1 pc') (.slice (some ⟨g6, 0, none⟩) (n2 + 1) cap6) (.slice wo' n3 wc') (.slice qo' n4 tc') (.bool bg) (.bool bk) (.int .i64 (nx + 1)) (.int .i64 hb) (.slice ho' n5 hc')) V6 ∧ V6.ownsRow w.heap.size 70 4 (.slice po' n1 pc') n1 (flatP ps) ∧ V6.ownsRow w.heap.size 74 4 (.slice (some ⟨g6, 0, none⟩) (n2 + 1) cap6) (n2 + 1) (flatV (ss ++ [⟨nx, x0, x3, cl⟩])) ∧ V6.ownsRow w.heap.size 76 2 (.slice wo' n3 wc') n3 (flatW ws) ∧ V6.ownsRow w.heap.size 72 3 (.slice qo' n4 tc') n4 (flatT ts) ∧ V6.ownsRow w.heap.size 70 4 (.slice ho' n5 hc') n5 (flatP hs)) := by
      have hlo := HU.out.2.lo
      have hbig : Below w.heap.size w w6 := ((HU.out.2.bel.trans (HV.out.2.1.mono HU.out.2.bel.size)).alloc (Nat.le_trans HU.out.2.bel.size HV.out.2.1.size) _).grown hg6 (by simp; have h1 := HW.out.2.2.2.1; omega) (fun g hg => by have h1 := (HOA.out.2.1.lt _ hg).1; have h2 := HW.out.2.2.2.1; omega)
      have hsame : ∀ b, b ≠ w1.heap.size → V6.heap[b]? = w6.heap[b]? := fun b hb => by rw [hV6]; exact (Below.heap_setCell _ _ _ _ hb).trans (Below.heap_setCell _ _ _ _ hb)
      have nn := own_ne10 hown6 h63 (by decide)
      have hle := HW.out.2.2.2.2.size
      refine ⟨hV6, ⟨(hsame _ (by omega)).trans H60, (hsame _ (by omega)).trans H61, ?_, ?_, hlo⟩, ?_, ?_, ?_, ?_, ?_⟩
      · rw [hV6]; exact set10_7 (set10_2 h63 _) _
      · rw [hV6]; exact (hbig.setCell (by show w.heap.size ≤ w1.heap.size; omega) _).setCell (by show w.heap.size ≤ w1.heap.size; omega) _
      · have q := own_grown (own_below (own_below HOA.out.1 HV.out.2.1) (nx_alloc V _)) (HOV.out.alloc _) (by decide) hg6
        have nq := own_ne10 q h63 (by decide)
        rw [hV6]; exact own_mono (own_set1 (own_set1 q nq) nq) hle
      · rw [hV6]
        refine own_mono (own_set1 (own_set1 ?_ nn) nn) hle
        unfold flatV
        rw [List.flatMap_append]
        exact hown6
      · have q := own_grown (own_below (own_below HOA.out.2.2.1 HV.out.2.1) (nx_alloc V _)) (HOV.out.alloc _) (by decide) hg6
        have nq := own_ne10 q h63 (by decide)
        rw [hV6]; exact own_mono (own_set1 (own_set1 q nq) nq) hle
      · have q := own_grown (own_below (own_below HOA.out.2.2.2.1 HV.out.2.1) (nx_alloc V _)) (HOV.out.alloc _) (by decide) hg6
        have nq := own_ne10 q h63 (by decide)
        rw [hV6]; exact own_mono (own_set1 (own_set1 q nq) nq) hle
      · have q := own_grown (own_below (own_below HOA.out.2.2.2.2 HV.out.2.1) (nx_alloc V _)) (HOV.out.alloc _) (by decide) hg6
        have nq := own_ne10 q h63 (by decide)
        rw [hV6]; exact own_mono (own_set1 (own_set1 q nq) nq) hle
    have z7 : (w6.setCell ⟨w1.heap.size, 2, none⟩ (.slice (some ⟨g6, 0, none⟩) (n2 + 1) cap6)).cell? ⟨w.heap.size, 7, none⟩ = some (.int .i64 nx) := (World.cell?_of_block (Below.heap_setCell _ _ _ _ (by have := HU.out.2.lo; show w.heap.size ≠ w1.heap.size; omega))).trans (blk10 H60).2.2.2.2.2.2.2.1
    clear hown6 hg6 hor hlow h63 hV6 H60 H61 a0 a1 a2 a3 a4 a5 a6 a7 a8 a9 az e0 e1 e2 e3 e4 e5 e6 e7 e8 e9 ez y0 y1 y2 y3 yz nso
    have hne : w.heap.size ≠ w1.heap.size := by have := HU.out.2.lo; omega
    have hlo := HU.out.2.lo
    go_upto_region 5 with fail
    rw [← HC.out.1]
    clear k0 k1 k2 k3 k4 k5 k6 k7 k8 k9 kz z7
    obtain ⟨e0, e1, e2, e3, e4, e5, e6, e7, e8, e9, ez⟩ := blk10 HC.out.2.1.h2
    obtain ⟨r0, r1, r2, r3, r4, r5, r6, r7, r8, r9, rz⟩ := blk10 HC.out.2.1.h1
    have HFW : Hid ((((((((((((V6.setCell ⟨w.heap.size + 1, 0, none⟩ (.int .i64 bud)).setCell ⟨w.heap.size + 1, 1, none⟩ (.slice po' n1 pc')).setCell ⟨w.heap.size + 1, 2, none⟩ (.slice (some ⟨g6, 0, none⟩) (n2 + 1) cap6)).setCell ⟨w.heap.size + 1, 3, none⟩ (.slice wo' n3 wc')).setCell ⟨w.heap.size + 1, 4, none⟩ (.slice qo' n4 tc')).setCell ⟨w.heap.size + 1, 5, none⟩ (.bool bg)).setCell ⟨w.heap.size + 1, 6, none⟩ (.bool bk)).setCell ⟨w.heap.size + 1, 7, none⟩ (.int .i64 (nx + 1))).setCell ⟨w.heap.size + 1, 8, none⟩ (.int .i64 hb)).setCell ⟨w.heap.size + 1, 9, none⟩ (.slice ho' n5 hc'))).heap[w.heap.size + 1]? = some (bWd (.int .i64 bud) (.slice po' n1 pc') (.slice (some ⟨g6, 0, none⟩) (n2 + 1) cap6) (.slice wo' n3 wc') (.slice qo' n4 tc') (.bool bg) (.bool bk) (.int .i64 (nx + 1)) (.int .i64 hb) (.slice ho' n5 hc'))) := st10_heap HC.out.2.1.h1 _ _ _ _ _ _ _ _ _ _
    have HFB : Hid (Below w.heap.size w (((((((((((V6.setCell ⟨w.heap.size + 1, 0, none⟩ (.int .i64 bud)).setCell ⟨w.heap.size + 1, 1, none⟩ (.slice po' n1 pc')).setCell ⟨w.heap.size + 1, 2, none⟩ (.slice (some ⟨g6, 0, none⟩) (n2 + 1) cap6)).setCell ⟨w.heap.size + 1, 3, none⟩ (.slice wo' n3 wc')).setCell ⟨w.heap.size + 1, 4, none⟩ (.slice qo' n4 tc')).setCell ⟨w.heap.size + 1, 5, none⟩ (.bool bg)).setCell ⟨w.heap.size + 1, 6, none⟩ (.bool bk)).setCell ⟨w.heap.size + 1, 7, none⟩ (.int .i64 (nx + 1))).setCell ⟨w.heap.size + 1, 8, none⟩ (.int .i64 hb)).setCell ⟨w.heap.size + 1, 9, none⟩ (.slice ho' n5 hc')))) := st10_bel HC.out.2.1.bel (by omega) _ _ _ _ _ _ _ _ _ _
    have HFO : Hid ((((((((((((V6.setCell ⟨w.heap.size + 1, 0, none⟩ (.int .i64 bud)).setCell ⟨w.heap.size + 1, 1, none⟩ (.slice po' n1 pc')).setCell ⟨w.heap.size + 1, 2, none⟩ (.slice (some ⟨g6, 0, none⟩) (n2 + 1) cap6)).setCell ⟨w.heap.size + 1, 3, none⟩ (.slice wo' n3 wc')).setCell ⟨w.heap.size + 1, 4, none⟩ (.slice qo' n4 tc')).setCell ⟨w.heap.size + 1, 5, none⟩ (.bool bg)).setCell ⟨w.heap.size + 1, 6, none⟩ (.bool bk)).setCell ⟨w.heap.size + 1, 7, none⟩ (.int .i64 (nx + 1))).setCell ⟨w.heap.size + 1, 8, none⟩ (.int .i64 hb)).setCell ⟨w.heap.size + 1, 9, none⟩ (.slice ho' n5 hc'))).ownsRow w.heap.size 70 4 (.slice po' n1 pc') n1 (flatP ps) ∧ (((((((((((V6.setCell ⟨w.heap.size + 1, 0, none⟩ (.int .i64 bud)).setCell ⟨w.heap.size + 1, 1, none⟩ (.slice po' n1 pc')).setCell ⟨w.heap.size + 1, 2, none⟩ (.slice (some ⟨g6, 0, none⟩) (n2 + 1) cap6)).setCell ⟨w.heap.size + 1, 3, none⟩ (.slice wo' n3 wc')).setCell ⟨w.heap.size + 1, 4, none⟩ (.slice qo' n4 tc')).setCell ⟨w.heap.size + 1, 5, none⟩ (.bool bg)).setCell ⟨w.heap.size + 1, 6, none⟩ (.bool bk)).setCell ⟨w.heap.size + 1, 7, none⟩ (.int .i64 (nx + 1))).setCell ⟨w.heap.size + 1, 8, none⟩ (.int .i64 hb)).setCell ⟨w.heap.size + 1, 9, none⟩ (.slice ho' n5 hc'))).ownsRow w.heap.size 74 4 (.slice (some ⟨g6, 0, none⟩) (n2 + 1) cap6) (n2 + 1) (flatV (ss ++ [⟨nx, x0, x3, cl⟩])) ∧ (((((((((((V6.setCell ⟨w.heap.size + 1, 0, none⟩ (.int .i64 bud)).setCell ⟨w.heap.size + 1, 1, none⟩ (.slice po' n1 pc')).setCell ⟨w.heap.size + 1, 2, none⟩ (.slice (some ⟨g6, 0, none⟩) (n2 + 1) cap6)).setCell ⟨w.heap.size + 1, 3, none⟩ (.slice wo' n3 wc')).setCell ⟨w.heap.size + 1, 4, none⟩ (.slice qo' n4 tc')).setCell ⟨w.heap.size + 1, 5, none⟩ (.bool bg)).setCell ⟨w.heap.size + 1, 6, none⟩ (.bool bk)).setCell ⟨w.heap.size + 1, 7, none⟩ (.int .i64 (nx + 1))).setCell ⟨w.heap.size + 1, 8, none⟩ (.int .i64 hb)).setCell ⟨w.heap.size + 1, 9, none⟩ (.slice ho' n5 hc'))).ownsRow w.heap.size 76 2 (.slice wo' n3 wc') n3 (flatW ws) ∧ (((((((((((V6.setCell ⟨w.heap.size + 1, 0, none⟩ (.int .i64 bud)).setCell ⟨w.heap.size + 1, 1, none⟩ (.slice po' n1 pc')).setCell ⟨w.heap.size + 1, 2, none⟩ (.slice (some ⟨g6, 0, none⟩) (n2 + 1) cap6)).setCell ⟨w.heap.size + 1, 3, none⟩ (.slice wo' n3 wc')).setCell ⟨w.heap.size + 1, 4, none⟩ (.slice qo' n4 tc')).setCell ⟨w.heap.size + 1, 5, none⟩ (.bool bg)).setCell ⟨w.heap.size + 1, 6, none⟩ (.bool bk)).setCell ⟨w.heap.size + 1, 7, none⟩ (.int .i64 (nx + 1))).setCell ⟨w.heap.size + 1, 8, none⟩ (.int .i64 hb)).setCell ⟨w.heap.size + 1, 9, none⟩ (.slice ho' n5 hc'))).ownsRow w.heap.size 72 3 (.slice qo' n4 tc') n4 (flatT ts) ∧ (((((((((((V6.setCell ⟨w.heap.size + 1, 0, none⟩ (.int .i64 bud)).setCell ⟨w.heap.size + 1, 1, none⟩ (.slice po' n1 pc')).setCell ⟨w.heap.size + 1, 2, none⟩ (.slice (some ⟨g6, 0, none⟩) (n2 + 1) cap6)).setCell ⟨w.heap.size + 1, 3, none⟩ (.slice wo' n3 wc')).setCell ⟨w.heap.size + 1, 4, none⟩ (.slice qo' n4 tc')).setCell ⟨w.heap.size + 1, 5, none⟩ (.bool bg)).setCell ⟨w.heap.size + 1, 6, none⟩ (.bool bk)).setCell ⟨w.heap.size + 1, 7, none⟩ (.int .i64 (nx + 1))).setCell ⟨w.heap.size + 1, 8, none⟩ (.int .i64 hb)).setCell ⟨w.heap.size + 1, 9, none⟩ (.slice ho' n5 hc'))).ownsRow w.heap.size 70 4 (.slice ho' n5 hc') n5 (flatP hs)) := ⟨own_st10 HC.out.2.2.1 (own_ne10 HC.out.2.2.1 HC.out.2.1.h1 (by decide)) _ _ _ _ _ _ _ _ _ _, own_st10 HC.out.2.2.2.1 (own_ne10 HC.out.2.2.2.1 HC.out.2.1.h1 (by decide)) _ _ _ _ _ _ _ _ _ _, own_st10 HC.out.2.2.2.2.1 (own_ne10 HC.out.2.2.2.2.1 HC.out.2.1.h1 (by decide)) _ _ _ _ _ _ _ _ _ _, own_st10 HC.out.2.2.2.2.2.1 (own_ne10 HC.out.2.2.2.2.2.1 HC.out.2.1.h1 (by decide)) _ _ _ _ _ _ _ _ _ _, own_st10 HC.out.2.2.2.2.2.2 (own_ne10 HC.out.2.2.2.2.2.2 HC.out.2.1.h1 (by decide)) _ _ _ _ _ _ _ _ _ _⟩
    go_wp2_with fail
    obtain ⟨FW, hFW⟩ : ∃ FW, ((((((((((V6.setCell ⟨w.heap.size + 1, 0, none⟩ (.int .i64 bud)).setCell ⟨w.heap.size + 1, 1, none⟩ (.slice po' n1 pc')).setCell ⟨w.heap.size + 1, 2, none⟩ (.slice (some ⟨g6, 0, none⟩) (n2 + 1) cap6)).setCell ⟨w.heap.size + 1, 3, none⟩ (.slice wo' n3 wc')).setCell ⟨w.heap.size + 1, 4, none⟩ (.slice qo' n4 tc')).setCell ⟨w.heap.size + 1, 5, none⟩ (.bool bg)).setCell ⟨w.heap.size + 1, 6, none⟩ (.bool bk)).setCell ⟨w.heap.size + 1, 7, none⟩ (.int .i64 (nx + 1))).setCell ⟨w.heap.size + 1, 8, none⟩ (.int .i64 hb)).setCell ⟨w.heap.size + 1, 9, none⟩ (.slice ho' n5 hc')) = FW := ⟨_, rfl⟩
    rw [hFW] at HFW HFB HFO ⊢
    obtain ⟨f0, f1, f2, f3, f4, f5, f6, f7, f8, f9, fz⟩ := blk10 HFW.out
    clear hFW
    have hsl : (ss ++ [(⟨nx, x0, x3, cl⟩ : Srv)]).length = n2 + 1 := by simp [HLN.out.2.1]
    refine bodyPost_ret (v := .agg #[.int .i64 bud, .slice po' n1 pc', .slice (some ⟨g6, 0, none⟩) (n2 + 1) cap6, .slice wo' n3 wc', .slice qo' n4 tc', .bool bg, .bool bk, .int .i64 (nx + 1), .int .i64 hb, .slice ho' n5 hc']) (by simp [results, Tryz.results127, go_sem, f0, f1, f2, f3, f4, f5, f6, f7, f8, f9]) rfl ⟨po', pc', some ⟨g6, 0, none⟩, cap6, wo', wc', qo', tc', ho', hc', ?_, ?_, ?_, ?_, ?_, ?_, HFB.out⟩
    · rw [HLN.out.1, HLN.out.2.2.1, HLN.out.2.2.2.1, HLN.out.2.2.2.2]
      simp only [hsl]
    · rw [HLN.out.1]; exact HFO.out.1
    · simp only [hsl]; exact HFO.out.2.1
    · rw [HLN.out.2.2.1]; exact HFO.out.2.2.1
    · rw [HLN.out.2.2.2.1]; exact HFO.out.2.2.2.1
    · rw [HLN.out.2.2.2.2]; exact HFO.out.2.2.2.2
end Lw
end Go.Proofs.YtmmmjpkhnbfnbaaGreat
