import Derived.Test.YtohbonfngeblkaaGreatMbBa
import Derived.Test.YtohbonfngeblkaaGreatMbAh
namespace Go.Proofs.YtohbonfngeblkaaGreat
open Go.RowKit
namespace Lw
open Co
theorem gGreater (a b : Int) (w : World) : Calls Tryz.prog 45 #[.int .i64 a, .int .i64 b] w fun e w' => e = .returned (.int .i64 (grt a b)) ∧ w' = w := by
  by_cases h : b < a
  · have HE : Hid (grt a b = a) := if_pos h
    go_enter Tryz.func45, Tryz.ntmps45
    go_wp2_with fail
    go_ret
    exact ⟨by rw [HE.out]; rfl, rfl⟩
  · have HE : Hid (grt a b = b) := if_neg h
    go_enter Tryz.func45, Tryz.ntmps45
    go_wp2_with fail
    go_ret
    exact ⟨by rw [HE.out]; rfl, rfl⟩
set_option maxRecDepth 20000 in
set_option maxHeartbeats 2000000 in
theorem gSized (b : Int) (po : Option Addr) (n pc : Nat) (name : ByteArray) (ps : List Pl) (w : World) (hr : RowAt w (.slice po n pc) n (flatP ps)) (hn : ps.length = n) (hq : n ≤ 1000) :
    Calls Tryz.prog 44 #[.agg #[.int .i64 b, .slice po n pc], .string name] w fun e w' => e = .returned (.int .i64 (szT (b, ps) name)) ∧ Below w.heap.size w w' := by
  obtain ⟨W, hW⟩ : ∃ W, W = w.alloc (bTab b (.slice po n pc)) := ⟨_, rfl⟩
  have hbW : Below w.heap.size w W := by rw [hW]; exact nx_alloc _ _
  have HW : Hid (W = w.alloc (bTab b (.slice po n pc)) ∧ W.heap[w.heap.size]? = some (bTab b (.slice po n pc)) ∧ Below w.heap.size w W ∧ RowAt W (.slice po n pc) n (flatP ps) ∧ ps.length = n) := ⟨hW, by rw [hW]; exact heap_alloc_at _ _ rfl, hbW, hr.nx hbW, hn⟩
  have HA := hideIt (gAt b po n pc name ps W (hr.nx hbW) hn (by unfold maxLen; omega))
  obtain ⟨a0, a1⟩ := gblk2 HW.out.2.1
  clear hr hn hW hbW
  go_enter Tryz.func44, Tryz.ntmps44
  go_upto_region 1 with fail
  rw [← HW.out.1]
  go_wp2_with fail
  refine HA.out.mono ?_
  rintro e w1 ⟨rfl, hb1⟩
  have HB1 := hideIt hb1
  clear hb1 a0 a1
  obtain ⟨a0, a1⟩ := gblk2 (gblk HW.out.2.1 HB1.out)
  cases hp : ps.findIdx? (isNameP name) with
  | none =>
    have HL : Hid (szT (b, ps) name = 0) := by show _ = _; unfold szT; simp only [gfidx_no hp]
    clear hp
    unfold optI
    go_wp2_with fail
    go_ret
    exact ⟨by rw [HL.out]; rfl, nx_trans HW.out.2.2.1 HB1.out⟩
  | some p =>
    obtain ⟨⟨y0, y1, y2, y3⟩, hy, hfy⟩ := gfidx_at hp
    have hpn : (p : Int) < (n : Int) := by
      have := (List.getElem?_eq_some_iff.1 hy).1
      rw [HW.out.2.2.2.2] at this
      omega
    have hnp : ¬ (p : Int) < 0 := by omega
    have HL : Hid (szT (b, ps) name = y1) := by show _ = _; unfold szT; simp only [hfy]
    obtain ⟨pb, pf, hpo, _, g0, g1, g2, g3⟩ := pool_at (HW.out.2.2.2.1.nx HB1.out) hy
    subst hpo
    simp only at g0 g1 g2 g3
    clear hp hy hfy
    unfold optI
    go_wp2_with fail
    go_ret
    exact ⟨by rw [HL.out]; rfl, nx_trans HW.out.2.2.1 HB1.out⟩
set_option maxRecDepth 20000 in
set_option maxHeartbeats 16000000 in
theorem gBounded (gg gp : Nat) (A1 : Int) (ao : Option Addr) (na ac : Nat) (B1 : Int) (bo : Option Addr) (nb bc : Nat) (as' bs' : List Pl) (b : Int) (po : Option Addr) (n1 pc : Nat) (so : Option Addr) (n2 sc : Nat) (wo : Option Addr) (n3 wc : Nat) (qo : Option Addr) (n4 tc : Nat) (bg bk : Bool) (ss : List Srv) (w : World) (hg : w.heap[gg]? = some (bGame gp A1 (.slice ao na ac) B1 (.slice bo nb bc))) (ha : RowAt w (.slice ao na ac) na (flatP as')) (hb : RowAt w (.slice bo nb bc) nb (flatP bs')) (hna : as'.length = na) (hnb : bs'.length = nb) (hna6 : na ≤ 1000) (hnb6 : nb ≤ 1000)
    (hr2 : RowAt w (.slice so n2 sc) n2 (flatV ss)) (hn2 : ss.length = n2) (hq2 : n2 ≤ 1099511627776) (hc : ∀ nm, (cntG (isPoolV nm) ss : Int) ≤ grt (szT (A1, as') nm) (szT (B1, bs') nm)) (hl : (n2 : Int) ≤ grt A1 B1) :
    Calls Tryz.prog 16 #[.pointer (some ⟨gg, 0, none⟩), .agg #[.int .i64 b, .slice po n1 pc, .slice so n2 sc, .slice wo n3 wc, .slice qo n4 tc, .bool bg, .bool bk]] w fun e w' => e = .returned (.bool true) ∧ Below w.heap.size w w' := by
  obtain ⟨W, hW⟩ : ∃ W, W = w.alloc (.cells #[.int .i64 b, .slice po n1 pc, .slice so n2 sc, .slice wo n3 wc, .slice qo n4 tc, .bool bg, .bool bk] 33) := ⟨_, rfl⟩
  have hbW : Below w.heap.size w W := by rw [hW]; exact nx_alloc _ _
  have hgW : W.heap[gg]? = some (bGame gp A1 (.slice ao na ac) B1 (.slice bo nb bc)) := gblk hg hbW
  have HW : Hid (W = w.alloc (.cells #[.int .i64 b, .slice po n1 pc, .slice so n2 sc, .slice wo n3 wc, .slice qo n4 tc, .bool bg, .bool bk] 33) ∧ W.heap[w.heap.size]? = some (.cells #[.int .i64 b, .slice po n1 pc, .slice so n2 sc, .slice wo n3 wc, .slice qo n4 tc, .bool bg, .bool bk] 33) ∧ Below w.heap.size w W ∧ W.heap[gg]? = some (bGame gp A1 (.slice ao na ac) B1 (.slice bo nb bc))) := ⟨hW, by rw [hW]; exact heap_alloc_at _ _ rfl, hbW, hgW⟩
  have HR : Hid (RowAt W (.slice so n2 sc) n2 (flatV ss) ∧ ss.length = n2) := ⟨hr2.nx hbW, hn2⟩
  have HCO := hideIt (fun u pool (hu : Below W.heap.size W u) => gCount b po n1 pc so n2 sc wo n3 wc qo n4 tc bg bk pool ss u (HR.out.1.nx hu) hn2 (by unfold maxLen; omega))
  have HSA := hideIt (fun u name (hu : Below W.heap.size W u) => gSized A1 ao na ac name as' u ((ha.nx hbW).nx hu) hna hna6)
  have HSB := hideIt (fun u name (hu : Below W.heap.size W u) => gSized B1 bo nb bc name bs' u ((hb.nx hbW).nx hu) hnb hnb6)
  have HC := hideIt hc
  have HL := hideIt hl
  have hgg : gg < W.heap.size := (Array.getElem?_eq_some_iff.1 hgW).1
  have hw0 : w.heap.size < W.heap.size := (Array.getElem?_eq_some_iff.1 HW.out.2.1).1
  clear hg ha hb hna hnb hr2 hn2 hc hl hW hbW hgW
  go_enter Tryz.func16, Tryz.ntmps16
  go_wp2_with fail
  go_loopw [5] (fun i wr => ∃ k : Nat, k ≤ n2 ∧ i = .int .i64 k ∧ Hid (Below W.heap.size W wr)) (fun i _ => n2 - (intOf i).toNat)
  case atStart =>
    refine ⟨0, Nat.zero_le _, rfl, ?_⟩
    show Below _ _ _
    rw [← HW.out.1]
    exact Below.refl _ _
  case round =>
    obtain ⟨k, hk, rfl, HB⟩ := hrel
    obtain ⟨a0, a1, a2, a3, a4, a5, a6⟩ := gblk7 (gblk HW.out.2.1 HB.out)
    obtain ⟨x0, x1, x2, x3, x4⟩ := gblk5 (gblk HW.out.2.2.2 HB.out)
    by_cases hlt : k < n2
    · obtain ⟨⟨s0, s1, s2, s3⟩, hp⟩ : ∃ p, ss[k]? = some p := ⟨_, List.getElem?_eq_getElem (by rw [HR.out.2]; exact hlt)⟩
      obtain ⟨bl, off, hao, hbl, c0, c1, c2, c3⟩ := sv_at (HR.out.1.nx HB.out) hp
      have HBL := hideIt (Nat.lt_of_lt_of_le hbl (Nat.le_refl _))
      subst hao
      simp only at c0 c1 c2 c3
      have hlti : (k : Int) < (n2 : Int) := by omega
      have HP := hideIt hp
      clear hp
      have hwr : w.heap.size < wr.heap.size := Nat.lt_of_lt_of_le hw0 HB.out.size
      go_upto_region 4 with fail
      go_cut [6] (fun v wx => v = .int .i64 (cntG (isPoolV s1) ss : Int) ∧ ∃ wy, Hid (Below wr.heap.size wr wy) ∧ wy = wx)
      case first =>
        go_region_held3 (fun w' => w'.cell? ⟨w.heap.size, 0, none⟩ = some (.int .i64 b) ∧ w'.cell? ⟨w.heap.size, 1, none⟩ = some (.slice po n1 pc) ∧ w'.cell? ⟨w.heap.size, 2, none⟩ = some (.slice (some ⟨bl, off, none⟩) n2 sc) ∧ w'.cell? ⟨w.heap.size, 3, none⟩ = some (.slice wo n3 wc) ∧ w'.cell? ⟨w.heap.size, 4, none⟩ = some (.slice qo n4 tc) ∧ w'.cell? ⟨w.heap.size, 5, none⟩ = some (.bool bg) ∧ w'.cell? ⟨w.heap.size, 6, none⟩ = some (.bool bk) ∧ w'.cell? ⟨bl, off + k * 4 + 1, none⟩ = some (.string s1)) (go_keep)
          ((go_at_call 42; refine (HCO.out _ _ HB.out.drew).mono ?_; rintro e w3 ⟨rfl, hb3⟩; have HB3 : Hid (Below wr.heap.size wr w3) := nx_trans (Below.refl _ _).drew hb3; have A0 := (HB3.out.cell (p := ⟨w.heap.size, 0, none⟩) hwr).trans a0; have A1 := (HB3.out.cell (p := ⟨w.heap.size, 1, none⟩) hwr).trans a1; have A2 := (HB3.out.cell (p := ⟨w.heap.size, 2, none⟩) hwr).trans a2; have A3 := (HB3.out.cell (p := ⟨w.heap.size, 3, none⟩) hwr).trans a3; have A4 := (HB3.out.cell (p := ⟨w.heap.size, 4, none⟩) hwr).trans a4; have A5 := (HB3.out.cell (p := ⟨w.heap.size, 5, none⟩) hwr).trans a5; have A6 := (HB3.out.cell (p := ⟨w.heap.size, 6, none⟩) hwr).trans a6; have e1 := (HB3.out.cell (p := ⟨bl, off + k * 4 + 1, none⟩) HBL.out).trans c1; clear hb3))
        all_goals
          go_wp2_with fail
          go_meet
          exact ⟨rfl, _, HB3.out, rfl⟩
      case rest =>
        obtain ⟨rfl, w3, HB3, rfl⟩ := hcut
        have HB3W : Hid (Below W.heap.size W w3) := nx_trans HB.out HB3.out
        clear a0 a1 a2 a3 a4 a5 a6 x0 x1 x2 x3 x4 c0 c1 c2 c3
        have a2 := (gblk7 (gblk HW.out.2.1 HB3W.out)).2.2.1
        obtain ⟨x0, x1, x2, x3, x4⟩ := gblk5 (gblk HW.out.2.2.2 HB3W.out)
        have c1 := (sv_at (HR.out.1.nx HB3W.out) HP.out)
        obtain ⟨bl', off', hao', hbl', _, c1, _, _⟩ := c1
        obtain ⟨rfl, rfl⟩ : bl = bl' ∧ off = off' := by simpa using hao'
        simp only at c1
        have hg3 : gg < w3.heap.size := Nat.lt_of_lt_of_le hgg HB3W.out.size
        have hw3 : w.heap.size < w3.heap.size := Nat.lt_of_lt_of_le hw0 HB3W.out.size
        clear hao'
        obtain ⟨ct, hct⟩ : ∃ ct : Nat, cntG (isPoolV s1) ss = ct := ⟨_, rfl⟩
        have HCT : Hid ((ct : Int) ≤ grt (szT (A1, as') s1) (szT (B1, bs') s1)) := by rw [← hct]; exact HC.out s1
        rw [hct]
        clear hct
        go_upto_region 5 with fail
        go_cut [7] (fun v wx => v = .int .i64 (szT (A1, as') s1) ∧ ∃ wy, Hid (Below w3.heap.size w3 wy) ∧ wy = wx)
        case first =>
          go_region_held3 (fun w' => w'.cell? ⟨gg, 1, none⟩ = some (.int .i64 A1) ∧ w'.cell? ⟨gg, 2, none⟩ = some (.slice ao na ac) ∧ w'.cell? ⟨w.heap.size, 2, none⟩ = some (.slice (some ⟨bl, off, none⟩) n2 sc) ∧ w'.cell? ⟨bl, off + k * 4 + 1, none⟩ = some (.string s1)) (go_keep)
            ((go_at_call 44; refine (HSA.out _ _ HB3W.out.drew).mono ?_; rintro e w4 ⟨rfl, hb4⟩; have HB4 : Hid (Below w3.heap.size w3 w4) := nx_trans (Below.refl _ _).drew hb4; have e0 := (HB4.out.cell (p := ⟨gg, 1, none⟩) hg3).trans x1; have e1 := (HB4.out.cell (p := ⟨gg, 2, none⟩) hg3).trans x2; have e2 := (HB4.out.cell (p := ⟨w.heap.size, 2, none⟩) hw3).trans a2; have e3 := (HB4.out.cell (p := ⟨bl, off + k * 4 + 1, none⟩) hbl').trans c1; clear hb4))
          all_goals
            go_wp2_with fail
            go_meet
            exact ⟨rfl, _, HB4.out, rfl⟩
        case rest =>
          obtain ⟨rfl, w4, HB4, rfl⟩ := hcut
          have HB4W : Hid (Below W.heap.size W w4) := nx_trans HB3W.out HB4.out
          clear a2 x0 x1 x2 x3 x4 c1 hg3 hw3 hbl'
          have a2 := (gblk7 (gblk HW.out.2.1 HB4W.out)).2.2.1
          obtain ⟨x0, x1, x2, x3, x4⟩ := gblk5 (gblk HW.out.2.2.2 HB4W.out)
          obtain ⟨bl', off', hao', hbl', _, c1, _, _⟩ := (sv_at (HR.out.1.nx HB4W.out) HP.out)
          obtain ⟨rfl, rfl⟩ : bl = bl' ∧ off = off' := by simpa using hao'
          simp only at c1
          have hg3 : gg < w4.heap.size := Nat.lt_of_lt_of_le hgg HB4W.out.size
          have hw3 : w.heap.size < w4.heap.size := Nat.lt_of_lt_of_le hw0 HB4W.out.size
          clear hao'
          go_upto_region 6 with fail
          go_cut [8] (fun v wx => v = .int .i64 (szT (B1, bs') s1) ∧ ∃ wy, Hid (Below w4.heap.size w4 wy) ∧ wy = wx)
          case first =>
            go_region_held3 (fun w' => w'.cell? ⟨gg, 3, none⟩ = some (.int .i64 B1) ∧ w'.cell? ⟨gg, 4, none⟩ = some (.slice bo nb bc) ∧ w'.cell? ⟨w.heap.size, 2, none⟩ = some (.slice (some ⟨bl, off, none⟩) n2 sc) ∧ w'.cell? ⟨bl, off + k * 4 + 1, none⟩ = some (.string s1)) (go_keep)
              ((go_at_call 44; refine (HSB.out _ _ HB4W.out.drew).mono ?_; rintro e w5 ⟨rfl, hb5⟩; have HB5 : Hid (Below w4.heap.size w4 w5) := nx_trans (Below.refl _ _).drew hb5; have e0 := (HB5.out.cell (p := ⟨gg, 3, none⟩) hg3).trans x3; have e1 := (HB5.out.cell (p := ⟨gg, 4, none⟩) hg3).trans x4; have e2 := (HB5.out.cell (p := ⟨w.heap.size, 2, none⟩) hw3).trans a2; have e3 := (HB5.out.cell (p := ⟨bl, off + k * 4 + 1, none⟩) hbl').trans c1; clear hb5))
            all_goals
              go_wp2_with fail
              go_meet
              exact ⟨rfl, _, HB5.out, rfl⟩
          case rest =>
            obtain ⟨rfl, w5, HB5, rfl⟩ := hcut
            have HB5W : Hid (Below W.heap.size W w5) := nx_trans HB4W.out HB5.out
            clear a2 x0 x1 x2 x3 x4 c1 hg3 hw3 hbl'
            obtain ⟨za, hza⟩ : ∃ q, szT (A1, as') s1 = q := ⟨_, rfl⟩
            obtain ⟨zb, hzb⟩ : ∃ q, szT (B1, bs') s1 = q := ⟨_, rfl⟩
            rw [hza, hzb] at HCT
            rw [hza, hzb]
            clear hza hzb
            go_wp2_with fail
            refine (gGreater za zb w5).mono ?_
            rintro e w6 ⟨rfl, h6⟩
            obtain rfl := h6.symm
            obtain ⟨gz, hgz⟩ : ∃ q, grt za zb = q := ⟨_, rfl⟩
            rw [hgz] at HCT
            rw [hgz]
            have hno : ¬ gz < (ct : Int) := by have := HCT.out; omega
            clear hgz
            go_wp2_with fail
            go_roundw
            case rel => exact ⟨k + 1, by omega, by go_num, HB5W.out⟩
            case measure => simp [intOf]; omega
    · have hlti : ¬ (k : Int) < (n2 : Int) := by omega
      obtain ⟨gz, hgz⟩ : ∃ q, grt A1 B1 = q := ⟨_, rfl⟩
      have HGR : Hid (∀ u, Calls Tryz.prog 45 #[.int .i64 A1, .int .i64 B1] u fun e w' => e = .returned (.int .i64 gz) ∧ w' = u) := fun u => by rw [← hgz]; exact gGreater A1 B1 u
      have hle : (n2 : Int) ≤ gz := by rw [← hgz]; exact HL.out
      clear hgz
      go_wp2_with fail
      go_quiet ((go_at_call 45; exact Calls.quiet_of_same (HGR.out _)))
      go_wp2_with fail
      go_ret
      exact ⟨rfl, below_drewN (nx_trans HW.out.2.2.1 HB.out) _⟩
structure BndI (w0 w : World) (gg gp : Nat) (S : Sta) (X : Aux) (Fp : Nat → Prop) (A B : Int × List Pl) (ao : Option Addr) (ac : Nat) (bo : Option Addr) (bc : Nat) (k : Nat) : Prop where
  game : GameAt w gg gp S X Fp A B ao ac bo bc
  run : Run1 S X
  lim : Lim A B S X
  pot : pot (S, X.op) ≤ 2 + k
  fp : ∀ y, Fp y → w0.heap.size ≤ y
  bel : Below w0.heap.size w0 w
theorem fits_run' {S : Sta} {X : Aux} {k : Nat} (h : Run1 S X) (hp : Lw.pot (S, X.op) ≤ 2 + k) (hk : k ≤ 1073741824) : Fits S ∧ Lw.pot (S, X.op) + 1 ≤ 549755813888 ∧ S.srv.length ≤ 1099511627776 ∧ S.wts.length ≤ 1099511627776 := by
  obtain ⟨g, hg⟩ := h.pln
  have h6 := hg.tab.len
  have h5 := h.plan
  exact fits_of h.good hp hk (by omega) (by omega)
set_option maxRecDepth 20000 in
set_option maxHeartbeats 8000000 in
theorem bounded_any (b1 : Int) (xs : List Pl) (xo : Option Addr) (nx xc : Nat) (b2 : Int) (ys : List Pl) (yo : Option Addr) (ny yc : Nat) (os : List Opk) (co : Option Addr) (n cc : Nat) (w : World)
    (hr1 : RowAt w (.slice xo nx xc) nx (flatP xs)) (hn1 : xs.length = nx) (hm1 : nx ≤ maxLen) (hb1 : I64 b1) (hx1 : ∀ x ∈ xs, I64 x.sz ∧ I64 x.wt ∧ I64 x.fr)
    (hr2 : RowAt w (.slice yo ny yc) ny (flatP ys)) (hn2 : ys.length = ny) (hm2 : ny ≤ maxLen) (hb2 : I64 b2) (hx2 : ∀ x ∈ ys, I64 x.sz ∧ I64 x.wt ∧ I64 x.fr)
    (hr : RowAt w (.slice co n cc) n (flatK os)) (hn : os.length = n) (hI : ∀ x ∈ os, I64 x.b) (hq : n ≤ 1073741823) :
    Calls Tryz.prog 5 #[.agg #[.int .i64 b1, .slice xo nx xc], .agg #[.int .i64 b2, .slice yo ny yc], .slice co n cc] w fun e w' => e = .returned (.bool true) ∧ Below w.heap.size w w' := by
  obtain ⟨W, hW⟩ : ∃ W, W = (w.alloc (bTab b1 (.slice xo nx xc))).alloc (bTab b2 (.slice yo ny yc)) := ⟨_, rfl⟩
  have hbW : Below w.heap.size w W := by rw [hW]; exact nx_trans (nx_alloc _ _) (nx_alloc _ _)
  have HW : Hid (W = (w.alloc (bTab b1 (.slice xo nx xc))).alloc (bTab b2 (.slice yo ny yc)) ∧ W.heap[w.heap.size]? = some (bTab b1 (.slice xo nx xc)) ∧ W.heap[w.heap.size + 1]? = some (bTab b2 (.slice yo ny yc)) ∧ Below w.heap.size w W) := by
    refine ⟨hW, ?_, ?_, hbW⟩
    · rw [hW]; exact (heap_alloc_lt _ _ (by simp)).trans (heap_alloc_at _ _ rfl)
    · rw [hW]; exact heap_alloc_at _ _ (by simp)
  have HO := hideIt (gOpened b1 xs xo nx xc b2 ys yo ny yc W (hr1.nx hbW) hn1 hm1 hb1 hx1 (hr2.nx hbW) hn2 hm2 hb2 hx2)
  have HR : Hid (RowAt W (.slice co n cc) n (flatK os) ∧ os.length = n ∧ ∀ x ∈ os, I64 x.b) := ⟨hr.nx hbW, hn, hI⟩
  clear hr1 hn1 hm1 hb1 hx1 hr2 hn2 hm2 hb2 hx2 hr hn hI hW hbW
  go_enter Tryz.func5, Tryz.ntmps5
  go_upto_region 1 with fail
  rw [← HW.out.1]
  obtain ⟨a0, a1⟩ := gblk2 HW.out.2.1
  obtain ⟨d0, d1⟩ := gblk2 HW.out.2.2.1
  go_wp2_with fail
  refine HO.out.mono ?_
  rintro e w1 ⟨gg, gp, S, X, Fp, A, B, ao, ac, bo, bc, rfl, hgame, hokA, hokB, hfr, hF, hb1⟩
  have HK : Hid (Okt A.1 A.2 ∧ Okt B.1 B.2) := ⟨hokA, hokB⟩
  have HI : Hid (BndI W w1 gg gp S X Fp A B ao ac bo bc 0) := ⟨hgame, run1_fresh hokA hfr, lim_fresh hokA hfr, hfr.pot, hF, hb1⟩
  clear hgame hokA hokB hfr hF hb1 a0 a1 d0 d1
  go_wp2_with fail
  go_loopw [9] (fun i wr => ∃ k : Nat, k ≤ n ∧ i = .int .i64 k ∧ Hid (∃ S X Fp, BndI W wr gg gp S X Fp A B ao ac bo bc k)) (fun i _ => n - (intOf i).toNat)
  case atStart => exact ⟨0, Nat.zero_le _, rfl, _, _, _, HI.out⟩
  case round =>
    clear HI
    obtain ⟨k, hk, rfl, HH⟩ := hrel
    obtain ⟨S, X, Fp, hfi⟩ := HH.out
    have HF := hideIt hfi
    clear hfi
    by_cases hlt : k < n
    · obtain ⟨⟨kd, a, p⟩, hp⟩ : ∃ p, os[k]? = some p := ⟨_, List.getElem?_eq_getElem (by rw [HR.out.2.1]; exact hlt)⟩
      obtain ⟨bl, off, hao, hbl, c0, c1, c2⟩ := opk_at (HR.out.1.nx HF.out.bel) hp
      subst hao
      simp only at c0 c1 c2
      have hlti : (k : Int) < (n : Int) := by omega
      have HP : Hid (I64 p) := HR.out.2.2 _ (List.mem_of_getElem? hp)
      have hfit := fits_run' HF.out.run HF.out.pot (by omega)
      obtain ⟨gl, hpln⟩ := HF.out.run.pln
      have HPL := hideIt (gplayA gg gp S X Fp A B ao ac bo bc wr kd a p gl HF.out.game HF.out.run.good hpln (by have := HF.out.run.plan; omega) hfit.2.1 HK.out.1 HK.out.2 HF.out.run.hps HP.out)
      clear hp hfit hpln
      go_wp2_with fail
      refine HPL.out.mono ?_
      rintro e w1 ⟨S', X', nn, er, ⟨rfl, Fp', hg1, hF1, hch1⟩, hstep⟩
      obtain ⟨hrun', hpot, _⟩ := step_run HK.out.1 HK.out.2 HF.out.run hstep
      have hlim' := step_lim HK.out.1 HK.out.2 HF.out.run HF.out.lim hstep
      have hfit1 := fits_run' (k := k + 1) hrun' (by have := HF.out.pot; omega) (by omega)
      have HSH := hideIt (show_any gp S' X' Fp' w1 hg1.desk hfit1.1)
      have HN1 : Hid (BndI W w1 gg gp S' X' Fp' A B ao ac bo bc (k + 1)) := ⟨hg1, hrun', hlim', by have := HF.out.pot; omega, fun y hy => by
        rcases hF1 y hy with h | h
        · exact HF.out.fp y h
        · exact Nat.le_trans HF.out.bel.size h, HF.out.bel.trans (hch1.below HF.out.bel.size HF.out.fp)⟩
      have HFT1 := hideIt hfit1
      obtain ⟨x0, x1, x2, x3, x4⟩ := gblk5 hg1.box
      clear hg1 hF1 hch1 hstep hrun' hpot hlim' hfit1 c0 c1 c2
      go_wp2_with fail
      refine HSH.out.mono ?_
      rintro e w2 ⟨v', rfl, hnew, hb2⟩
      obtain ⟨V, hV⟩ : ∃ V, V = w2.alloc (bSta S' v') := ⟨_, rfl⟩
      have hbV : Below w1.heap.size w1 V := by rw [hV]; exact nx_trans hb2 (nx_alloc _ _)
      have H2 : Hid (V = w2.alloc (bSta S' v') ∧ V.heap[w2.heap.size]? = some (bSta S' v') ∧ StaAt V S' v' ∧ Below w1.heap.size w1 V) := ⟨hV, by rw [hV]; exact heap_alloc_at _ _ rfl, by rw [hV]; exact ⟨(own_row hnew.p).nx (nx_alloc _ _), (own_row hnew.s).nx (nx_alloc _ _), (own_row hnew.t).nx (nx_alloc _ _), (own_row hnew.l).nx (nx_alloc _ _)⟩, hbV⟩
      clear hnew hb2 hV hbV x0 x1 x2 x3 x4
      have HBO : Hid (Calls Tryz.prog 16 #[.pointer (some ⟨gg, 0, none⟩), staA S' v'] V fun e w' => e = .returned (.bool true) ∧ Below V.heap.size V w') := by
        have hgV := HN1.out.game.below H2.out.2.2.2
        have hA6 := HK.out.1.len
        have hB6 := HK.out.2.len
        exact gBounded gg gp A.1 ao _ ac B.1 bo _ bc A.2 B.2 S'.bud v'.po _ v'.pc v'.so _ v'.sc v'.wo _ v'.wc v'.to _ v'.tc S'.begun S'.back S'.srv V hgV.box hgV.a hgV.b rfl rfl (by omega) (by omega) H2.out.2.2.1.s rfl HFT1.out.2.2.1 HN1.out.lim.cnt HN1.out.lim.len
      have HSE : Hid (∀ u, Below V.heap.size V u → Calls Tryz.prog 13 #[staA S' v'] u fun e w' => e = .returned (.bool true) ∧ Below u.heap.size u w') := by
        intro u hu
        have q2 := H2.out.2.2.1.nx hu
        exact gSettled S'.bud v'.po _ v'.pc v'.so _ v'.sc v'.wo _ v'.wc v'.to _ v'.tc S'.begun S'.back S'.pools S'.srv S'.wts u (SetL.of HN1.out.run.good) q2.p rfl HFT1.out.1.p q2.s rfl HFT1.out.2.2.1 q2.t rfl HFT1.out.2.2.2
      simp only [staA] at HBO HSE
      obtain ⟨t0, t1, t2, t3, t4, t5, t6⟩ := gblk7 H2.out.2.1
      go_upto_region 9 with fail
      rw [← H2.out.1]
      go_wp2_with fail
      refine HBO.out.mono ?_
      rintro e w3 ⟨rfl, hb3⟩
      have HB3 := hideIt hb3
      clear t0 t1 t2 t3 t4 t5 t6 hb3
      obtain ⟨t0, t1, t2, t3, t4, t5, t6⟩ := gblk7 (gblk H2.out.2.1 HB3.out)
      go_wp2_with fail
      refine (HSE.out _ HB3.out).mono ?_
      rintro e w4 ⟨rfl, hb4⟩
      have HN : Hid (BndI W w4 gg gp S' X' Fp' A B ao ac bo bc (k + 1)) := by
        have h := HN1.out
        have hb : Below w1.heap.size w1 w4 := nx_trans H2.out.2.2.2 (nx_trans HB3.out hb4)
        exact ⟨h.game.below hb, h.run, h.lim, h.pot, h.fp, nx_trans h.bel hb⟩
      clear t0 t1 t2 t3 t4 t5 t6 hb4
      go_wp2_with fail
      go_roundw
      case rel => exact ⟨k + 1, by omega, by go_num, _, _, _, HN.out⟩
      case measure => simp [intOf]; omega
    · have hlti : ¬ (k : Int) < (n : Int) := by omega
      go_wp2_with fail
      go_ret
      exact ⟨rfl, nx_trans HW.out.2.2.2 HF.out.bel⟩
end Lw
end Go.Proofs.YtohbonfngeblkaaGreat
namespace Go.Proofs.YtohbonfngeblkaaGreat
namespace Lw
open Go.ChangeShapes Go.WideShapes Go.ChangeAt Go.RowKit Go.ChangeMaps
open Co
set_option maxRecDepth 100000 in
theorem bounded_contract (H : Type) (enc : TypeId × Value → H) (W : World) (base : Nat) (args : Array Value) (ds gs : List (DataW H)) (before : List MemPlace)
    (hval : ∀ (j : Nat) t v, Tryz.f5.params[j]? = some t → args[j]? = some v → Value.okWide Tryz.prog W .any base t v)
    (hW : DataW.Whole enc Tryz.prog Tryz.f5.params.toList Rows.boundedSpec.vars false W args.toList ds gs before) (hk : Rows.uptoSmall H (ds ++ gs) = true) :
    Calls Tryz.prog 5 args W fun e W' => ∃ v, e = .returned v ∧ Rows.boundedSpec.post enc Tryz.prog Tryz.f5 false true false false W args v W' := by
  have hW' := hW
  obtain ⟨p, q, hA0, hV, rfl, hfz, hnd⟩ := hW
  have hA : DataW.TrodAll enc Tryz.prog W 0 (fun _ => true) true Tryz.f5.params.toList args.toList ds p := hA0
  rw [Tryz.params5] at hA hval
  obtain ⟨v0, vs0, d0, ds0, p0, q0, hargs0, rfl, rfl, h0, r0⟩ := trodAll_cons hA
  obtain ⟨v1, vs1, d1, ds1, p1, q1, hargs1, rfl, rfl, h1, r1⟩ := trodAll_cons r0
  obtain ⟨v2, vs2, d2, ds2, p2, q2, hargs2, rfl, rfl, h2, r2⟩ := trodAll_cons r1
  obtain ⟨rfl, rfl, rfl⟩ := trodAll_nil r2
  obtain rfl : args = #[v0, v1, v2] := by cases args; simp_all
  obtain ⟨rfl, rfl⟩ := trodVars_none hV
  have hok0 := hval 0 24 v0 rfl rfl
  have hok1 := hval 1 24 v1 rfl rfl
  have hok2 := hval 2 25 v2 rfl rfl
  obtain ⟨b0, xo0, nx0, xc0, ps0, rfl, hps0, hn0, hm0, hb0, hx0⟩ := kopen_table hok0 h0
  obtain ⟨b1, xo1, nx1, xc1, ps1, rfl, hps1, hn1, hm1, hb1, hx1⟩ := kopen_table hok1 h1
  obtain ⟨co2, n2, cc2, os2, rfl, hrow2, hno2, hI2, hd2⟩ := open_opks hok2 h2
  clear hA0
  simp only [List.append_nil] at hW' hk
  have hbk : Rows.uptoBulkAll [d0, d1, d2] ≤ 1048576 := of_decide_eq_true hk
  have hs2 : n2 ≤ 1048576 := gbulk_mem (d := d2) (by simp) hd2 hbk
  have hlt0 : ∀ x ∈ p0, x.block < W.heap.size := fun x hx => hW'.lt x (by simp [hx])
  have hlt1 : ∀ x ∈ p1, x.block < W.heap.size := fun x hx => hW'.lt x (by simp [hx])
  have hlt2 : ∀ x ∈ p2, x.block < W.heap.size := fun x hx => hW'.lt x (by simp [hx])
  refine (bounded_any b0 ps0 xo0 nx0 xc0 b1 ps1 xo1 nx1 xc1 os2 co2 n2 cc2 W hps0 hn0 hm0 hb0 hx0 hps1 hn1 hm1 hb1 hx1 hrow2 hno2 (fun x hx => (hI2 x hx).2.2) (by omega)).mono fun e W' ⟨he, hb⟩ => ?_
  subst he
  refine ⟨_, rfl, _, _, _, [], p0 ++ (p1 ++ (p2 ++ [])), [], hW', ?_, ?_, rfl, hb.frame _, fun h => by cases h⟩
  · exact trodAll_cons_mk (shut_bool Tryz.underlying4 _) trodAll_mk0
  · exact trodAll_cons_mk (Below.trod laidOutG (by kernel_rfl) (of_decide_eq_true (by kernel_rfl)) h0 hb hlt0) (trodAll_cons_mk (Below.trod laidOutG (by kernel_rfl) (of_decide_eq_true (by kernel_rfl)) h1 hb hlt1) (trodAll_cons_mk (Below.trod laidOutG (by kernel_rfl) (of_decide_eq_true (by kernel_rfl)) h2 hb hlt2) trodAll_mk0))
set_option maxRecDepth 100000 in
theorem bounded_lifted (os : Os) (started : os.Started) (H : Type) (enc : TypeId × Value → H) (F : Stop.Interp) :
    ReturnsInHanded {} Tryz.checked os 5 .any ((Rows.OpenSpec.upto Rows.boundedSpec).pre6 enc Tryz.prog Tryz.f5 Rows.boundedUptoRow.domain false) (((Rows.OpenSpec.upto Rows.boundedSpec).at F).post enc Tryz.prog Tryz.f5 false true false false) := by
  refine returnsInHanded_of_cond (C := Tryz.checked) (s := Rows.OpenSpec.upto Rows.boundedSpec) (k := Rows.uptoSmall) rfl ownG started (by kernel_rfl) Tryz.func5
    (OpenSpec.witness (enc := enc) (C := Tryz.checked) (s := Rows.OpenSpec.upto Rows.boundedSpec) (k := Rows.uptoSmall) rfl false ⟨#[], #[.agg #[.int .i64 0, .slice none 0 0], .agg #[.int .i64 0, .slice none 0 0], .slice none 0 0], []⟩ 8 (by kernel_rfl) (by kernel_rfl) (by kernel_rfl)
      (x := ([.agg [.lit (.int .i64 0), .nil], .agg [.lit (.int .i64 0), .nil], .nil], [], [])) (by kernel_rfl) rfl (by kernel_rfl)) ?_
  intro W base args ds gs before hval hW _ hk _
  exact bounded_contract H enc W base args ds gs before hval hW hk
end Lw
theorem bounded_upto_said : Rows.BoundedUptoSaid :=
  OpenClaim.holds_of_cond 5 Tryz.f5 rfl rfl rfl rfl rfl rfl rfl ⟨rfl, rfl, rfl, rfl, rfl⟩ rfl rfl rfl rfl rfl (by kernel_rfl) Tryz.func5 (by kernel_rfl)
    (of_decide_eq_true (by kernel_rfl)) (by unfold Func.isWrapper; first | (rw [if_pos (by decide +kernel)]; kernel_rfl) | (rw [if_neg (by decide +kernel)]; exact ⟨rfl, rfl⟩))
    (fun os started H enc _ F => Lw.bounded_lifted os started H enc F)
#print axioms bounded_upto_said
end Go.Proofs.YtohbonfngeblkaaGreat
