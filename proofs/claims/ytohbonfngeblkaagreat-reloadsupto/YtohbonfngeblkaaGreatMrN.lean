import Derived.Test.YtohbonfngeblkaaGreatMrM
import Derived.Test.YtohbonfngeblkaaGreatMrH
namespace Go.Proofs.YtohbonfngeblkaaGreat
open Go.RowKit
namespace Lw
open Co
structure SetL (b : Int) (ps : List Pl) (ss : List Srv) (ws : List Wtr) : Prop where
  s : ∀ x ∈ ss, (x.client == 0) = true → surG b ps ss x = false
  t : ∀ y ∈ ws, ∃ k x, ps.findIdx? (isNameP y.pool) = some k ∧ ps[k]? = some x ∧ ss.any (isIdle y.pool false) = false ∧ (cntG (isPoolW y.pool) ws : Int) ≤ x.wt ∧ (decide ((cntG (isPoolV y.pool) ss : Int) < x.sz) = false ∨ (decide ((ss.length : Int) < b) = false ∧ (((ss.length : Int) == b) = false ∨ ss.any (isIdle ⟨#[]⟩ true) = false)))
theorem SetL.of {S : Sta} {op : Int} (h : Good S op) : SetL S.bud S.pools S.srv S.wts := by
  refine ⟨fun x hx h0 => by rw [surG_eq]; exact h.fine.sur x hx (eq_of_beq h0), fun y hy => ?_⟩
  obtain ⟨x, h1, h2⟩ := h.wts y hy
  have hst := (first_none _ _).1 h.still y hy
  have hk : ∃ k, S.pools.findIdx? (isNameP y.pool) = some k := by
    cases hf : S.pools.findIdx? (isNameP y.pool) with
    | none => rw [gfidx_no hf] at h1; simp at h1
    | some k => exact ⟨k, rfl⟩
  obtain ⟨k, hk⟩ := hk
  obtain ⟨x', hx1, hx2⟩ := gfidx_at hk
  rw [h1] at hx2
  obtain rfl := Option.some.inj hx2
  unfold rLent at hst
  rw [h1] at hst
  simp only at hst
  have hany : ∀ (p : Srv → Bool), S.srv.findIdx? p = none → S.srv.any p = false := fun p hp => List.any_eq_false.2 (fun z hz => by
    rw [List.findIdx?_eq_none_iff] at hp
    rw [hp z hz]; simp)
  cases hi : S.srv.findIdx? (isIdle y.pool false) with
  | some j => rw [hi] at hst; simp at hst
  | none =>
    rw [hi] at hst
    simp only at hst
    refine ⟨k, x, hk, hx1, hany _ hi, h2, ?_⟩
    by_cases hc : x.sz ≤ (cntG (isPoolV y.pool) S.srv : Int) ∨ S.bud < (S.srv.length : Int)
    · rcases hc with hc | hc
      · left; exact decide_eq_false (by omega)
      · right
        exact ⟨decide_eq_false (by omega), .inl (beq_eq_false_iff_ne.2 (by omega))⟩
    · rw [if_neg hc] at hst
      right
      unfold rRoom at hst
      by_cases hl : (S.srv.length : Int) < S.bud
      · rw [if_pos hl] at hst; simp at hst
      · refine ⟨decide_eq_false hl, .inr ?_⟩
        rw [if_neg hl] at hst
        cases hj : S.srv.findIdx? (isIdle ⟨#[]⟩ true) with
        | some j => rw [hj] at hst; simp at hst
        | none => exact hany _ hj
set_option maxRecDepth 20000 in
set_option maxHeartbeats 8000000 in
theorem gSettled (b : Int) (po : Option Addr) (n1 pc : Nat) (so : Option Addr) (n2 sc : Nat) (wo : Option Addr) (n3 wc : Nat) (qo : Option Addr) (n4 tc : Nat) (bg bk : Bool) (ps : List Pl) (ss : List Srv) (ws : List Wtr) (w : World) (hf : SetL b ps ss ws) (hr1 : RowAt w (.slice po n1 pc) n1 (flatP ps)) (hn1 : ps.length = n1) (hq1 : n1 ≤ 1099511627776) (hr2 : RowAt w (.slice so n2 sc) n2 (flatV ss)) (hn2 : ss.length = n2) (hq2 : n2 ≤ 1099511627776) (hr3 : RowAt w (.slice wo n3 wc) n3 (flatW ws)) (hn3 : ws.length = n3) (hq3 : n3 ≤ 1099511627776) :
    Calls Tryz.prog 13 #[.agg #[.int .i64 b, .slice po n1 pc, .slice so n2 sc, .slice wo n3 wc, .slice qo n4 tc, .bool bg, .bool bk]] w fun e w' => e = .returned (.bool true) ∧ Below w.heap.size w w' := by
  obtain ⟨W, hW⟩ : ∃ W, W = w.alloc (.cells #[.int .i64 b, .slice po n1 pc, .slice so n2 sc, .slice wo n3 wc, .slice qo n4 tc, .bool bg, .bool bk] 33) := ⟨_, rfl⟩
  have hbW : Below w.heap.size w W := by rw [hW]; exact nx_alloc _ _
  have HW : Hid (W = w.alloc (.cells #[.int .i64 b, .slice po n1 pc, .slice so n2 sc, .slice wo n3 wc, .slice qo n4 tc, .bool bg, .bool bk] 33) ∧ W.heap[w.heap.size]? = some (.cells #[.int .i64 b, .slice po n1 pc, .slice so n2 sc, .slice wo n3 wc, .slice qo n4 tc, .bool bg, .bool bk] 33) ∧ Below w.heap.size w W) := ⟨hW, by rw [hW]; exact heap_alloc_at _ _ rfl, hbW⟩
  have HF := hideIt hf
  have HR : Hid (RowAt W (.slice po n1 pc) n1 (flatP ps) ∧ RowAt W (.slice so n2 sc) n2 (flatV ss) ∧ RowAt W (.slice wo n3 wc) n3 (flatW ws)) := ⟨hr1.nx hbW, hr2.nx hbW, hr3.nx hbW⟩
  have HN : Hid (ps.length = n1 ∧ ss.length = n2 ∧ ws.length = n3) := ⟨hn1, hn2, hn3⟩
  have HSU := hideIt (fun u i x0 x1 x2 x3 (hu : Below W.heap.size W u) => gSurplus b po n1 pc so n2 sc wo n3 wc qo n4 tc bg bk ps ss u i x0 x1 x2 x3 (HR.out.1.nx hu) hn1 hq1 (HR.out.2.1.nx hu) hn2 hq2)
  have HID := hideIt (fun u pool all (hu : Below W.heap.size W u) => gIdle b po n1 pc so n2 sc wo n3 wc qo n4 tc bg bk pool all ss u (HR.out.2.1.nx hu) hn2 (by unfold maxLen; omega))
  have HCO := hideIt (fun u pool (hu : Below W.heap.size W u) => gCount b po n1 pc so n2 sc wo n3 wc qo n4 tc bg bk pool ss u (HR.out.2.1.nx hu) hn2 (by unfold maxLen; omega))
  have HAT := hideIt (fun u name (hu : Below W.heap.size W u) => gAt b po n1 pc name ps u (HR.out.1.nx hu) hn1 (by unfold maxLen; omega))
  clear hf hr1 hr2 hr3 hn1 hn2 hn3 hW hbW
  go_enter Tryz.func13, Tryz.ntmps13
  go_wp2_with fail
  go_loopw [3] (fun i wr => ∃ k : Nat, k ≤ n2 ∧ i = .int .i64 k ∧ Hid (Below W.heap.size W wr)) (fun i _ => n2 - (intOf i).toNat)
  case atStart =>
    refine ⟨0, Nat.zero_le _, rfl, ?_⟩
    show Below _ _ _
    rw [← HW.out.1]
    exact Below.refl _ _
  case round =>
    obtain ⟨k, hk, rfl, HB⟩ := hrel
    obtain ⟨a0, a1, a2, a3, a4, a5, a6⟩ := gblk7 (gblk HW.out.2.1 HB.out)
    by_cases hlt : k < n2
    · obtain ⟨⟨x0, x1, x2, x3⟩, hp⟩ : ∃ p, ss[k]? = some p := ⟨_, List.getElem?_eq_getElem (by rw [HN.out.2.1]; exact hlt)⟩
      have HC := hideIt (HSU.out wr k x0 x1 x2 x3 HB.out hp)
      have HS := hideIt (HF.out.s _ (List.mem_of_getElem? hp))
      have HP := hideIt hp
      have hlti : (k : Int) < (n2 : Int) := by omega
      clear hp
      go_wp2_with fail
      refine HC.out.mono ?_
      rintro e w1 ⟨rfl, hb1⟩
      have HB1 : Hid (Below W.heap.size W w1) := nx_trans HB.out hb1
      clear hb1 a0 a1 a2 a3 a4 a5 a6
      obtain ⟨a0, a1, a2, a3, a4, a5, a6⟩ := gblk7 (gblk HW.out.2.1 HB1.out)
      obtain ⟨bl, off, hao, hbl, c0, c1, c2, c3⟩ := sv_at (HR.out.2.1.nx HB1.out) HP.out
      subst hao
      simp only at c0 c1 c2 c3
      cases hu : surG b ps ss ⟨x0, x1, x2, x3⟩ with
      | true =>
        have h3 : (x3 == 0) = false := bool_ne (fun h => by have := HS.out h; rw [hu] at this; simp at this)
        clear hu
        go_wp2_with fail
        go_roundw
        case rel => exact ⟨k + 1, by omega, by go_num, HB1.out⟩
        case measure => simp [intOf]; omega
      | false =>
        clear hu
        go_wp2_with fail
        go_roundw
        case rel => exact ⟨k + 1, by omega, by go_num, HB1.out⟩
        case measure => simp [intOf]; omega
    · have hlti : ¬ (k : Int) < (n2 : Int) := by omega
      go_wp2_with fail
      refine (HID.out wr ⟨#[]⟩ true HB.out).mono ?_
      rintro e w1 ⟨rfl, hb1⟩
      have HB1 : Hid (Below W.heap.size W w1) := nx_trans HB.out hb1
      obtain ⟨sp, hsp⟩ : ∃ sp, ss.any (isIdle ⟨#[]⟩ true) = sp := ⟨_, rfl⟩
      rw [hsp]
      have HSP := hideIt hsp
      clear hb1 a0 a1 a2 a3 a4 a5 a6 hsp
      go_wp2_with fail
      go_loopw [6] (fun i wr => ∃ k : Nat, k ≤ n3 ∧ i = .int .i64 k ∧ Hid (Below W.heap.size W wr)) (fun i _ => n3 - (intOf i).toNat)
      case atStart => exact ⟨0, Nat.zero_le _, rfl, HB1.out⟩
      case round =>
        clear HB hlti hlt hk
        obtain ⟨q, hq, rfl, HB⟩ := hrel
        obtain ⟨a0, a1, a2, a3, a4, a5, a6⟩ := gblk7 (gblk HW.out.2.1 HB.out)
        by_cases hqt : q < n3
        · obtain ⟨⟨x0, x1⟩, hp⟩ : ∃ p, ws[q]? = some p := ⟨_, List.getElem?_eq_getElem (by rw [HN.out.2.2]; exact hqt)⟩
          obtain ⟨bl, off, hao, hbl, c0, c1⟩ := wt_at (HR.out.2.2.nx HB.out) hp
          have HRW := hideIt HR.out.2.2
          subst hao
          simp only at c0 c1
          have hlti : (q : Int) < (n3 : Int) := by omega
          obtain ⟨p, ⟨y0, y1, y2, y3⟩, hpi, hpp, hidl, hcw, hroom⟩ := HF.out.t _ (List.mem_of_getElem? hp)
          simp only at hcw hroom hpi hidl
          obtain ⟨V, hV⟩ : ∃ V, V = wr.alloc (.cells #[.int .i64 x0, .string x1] 61) := ⟨_, rfl⟩
          have HV : Hid (V = wr.alloc (.cells #[.int .i64 x0, .string x1] 61) ∧ V.heap[wr.heap.size]? = some (.cells #[.int .i64 x0, .string x1] 61) ∧ Below W.heap.size W V) := ⟨hV, by rw [hV]; exact heap_alloc_at _ _ rfl, by rw [hV]; exact nx_trans HB.out (nx_alloc _ _)⟩
          have HA1 := hideIt (HAT.out V x1 HV.out.2.2)
          rw [hpi] at HA1
          have hpn : (p : Int) < (n1 : Int) := by
            have := (List.getElem?_eq_some_iff.1 hpp).1
            rw [HN.out.1] at this
            omega
          have HPP := hideIt hpp
          have HROOM := hideIt hroom
          have HIDL := hideIt hidl
          have HCW := hideIt hcw
          clear hp hV hpi hpp hroom hidl hcw
          go_upto_region 12 with fail
          rw [← HV.out.1]
          clear a0 a1 a2 a3 a4 a5 a6 c0 c1
          obtain ⟨a0, a1, a2, a3, a4, a5, a6⟩ := gblk7 (gblk HW.out.2.1 HV.out.2.2)
          obtain ⟨v0, v1⟩ := gblk2 HV.out.2.1
          unfold optI at HA1
          go_wp2_with fail
          refine HA1.out.mono ?_
          rintro e w2 ⟨rfl, hb2⟩
          have HB2 : Hid (Below W.heap.size W w2) := nx_trans HV.out.2.2 hb2
          have HY2 : Hid (w2.heap[wr.heap.size]? = some (.cells #[.int .i64 x0, .string x1] 61)) := gblk HV.out.2.1 hb2
          have hnp : ¬ (p : Int) < 0 := by omega
          clear a0 a1 a2 a3 a4 a5 a6 v0 v1 hb2
          obtain ⟨a0, a1, a2, a3, a4, a5, a6⟩ := gblk7 (gblk HW.out.2.1 HB2.out)
          obtain ⟨v0, v1⟩ := gblk2 HY2.out
          go_wp2_with fail
          refine (HCO.out w2 x1 HB2.out).mono ?_
          rintro e w3 ⟨rfl, hb3⟩
          have HB3 : Hid (Below W.heap.size W w3) := nx_trans HB2.out hb3
          have HY3 : Hid (w3.heap[wr.heap.size]? = some (.cells #[.int .i64 x0, .string x1] 61)) := gblk HY2.out hb3
          obtain ⟨ct, hct⟩ : ∃ ct : Nat, cntG (isPoolV x1) ss = ct := ⟨_, rfl⟩
          rw [hct]
          rw [hct] at HROOM
          clear a0 a1 a2 a3 a4 a5 a6 v0 v1 hb3 hct
          obtain ⟨a0, a1, a2, a3, a4, a5, a6⟩ := gblk7 (gblk HW.out.2.1 HB3.out)
          obtain ⟨v0, v1⟩ := gblk2 HY3.out
          go_wp2_with fail
          refine (HID.out w3 x1 false HB3.out).mono ?_
          rintro e w4 ⟨rfl, hb4⟩
          rw [HIDL.out]
          have HB4 : Hid (Below W.heap.size W w4) := nx_trans HB3.out hb4
          have HY4 : Hid (w4.heap[wr.heap.size]? = some (.cells #[.int .i64 x0, .string x1] 61)) := gblk HY3.out hb4
          clear a0 a1 a2 a3 a4 a5 a6 v0 v1 hb4
          obtain ⟨a0, a1, a2, a3, a4, a5, a6⟩ := gblk7 (gblk HW.out.2.1 HB4.out)
          obtain ⟨pb, pf, hpo, hpb, g0, g1, g2, g3⟩ := pool_at (HR.out.1.nx HB4.out) HPP.out
          subst hpo
          simp only at g0 g1 g2 g3
          go_upto_region 17 with fail
          go_cut [11] (fun v wx => ∃ r : Bool, v = .bool r ∧ Hid (decide ((ct : Int) < y1) = false ∨ r = false) ∧ w4 = wx)
          case first =>
            have hnl : ss.length = n2 := HN.out.2.1
            have HR2 : Hid (decide ((ct : Int) < y1) = false ∨ (decide ((n2 : Int) < b) = false ∧ (((n2 : Int) == b) = false ∨ sp = false))) := by
              rw [← hnl, ← HSP.out]; exact HROOM.out
            clear hnl
            cases h1 : decide ((n2 : Int) < b) with
            | true =>
              have HX : Hid (decide ((ct : Int) < y1) = false ∨ true = false) := by
                rcases HR2.out with h | ⟨h, _⟩
                · exact .inl h
                · rw [h1] at h; simp at h
              go_wp2_with fail
              go_meet
              exact ⟨true, rfl, HX.out, rfl⟩
            | false =>
              cases h2 : ((n2 : Int) == b) with
              | true =>
                have HX : Hid (decide ((ct : Int) < y1) = false ∨ sp = false) := by
                  rcases HR2.out with h | ⟨_, h | h⟩
                  · exact .inl h
                  · rw [h2] at h; simp at h
                  · exact .inr h
                go_wp2_with fail
                go_meet
                exact ⟨sp, rfl, HX.out, rfl⟩
              | false =>
                go_wp2_with fail
                go_meet
                exact ⟨false, rfl, .inr rfl, rfl⟩
          case rest =>
            obtain ⟨r, rfl, HRR, rfl⟩ := hcut
            go_upto_region 18 with fail
            go_cut [96] (fun v wx => v = .bool false ∧ w4 = wx)
            case first =>
              cases h1 : decide ((ct : Int) < y1) with
              | true =>
                have h2 : r = false := by
                  rcases HRR.out with h | h
                  · rw [h1] at h; simp at h
                  · exact h
                subst h2
                go_wp2_with fail
                go_meet
                exact ⟨rfl, rfl⟩
              | false =>
                go_wp2_with fail
                go_meet
                exact ⟨rfl, rfl⟩
            case rest =>
              obtain ⟨rfl, rfl⟩ := hcut
              go_wp2_with fail
              clear a0 a1 a2 a3 a4 a5 a6 g0 g1 g2 g3
              go_loopw [12, 13] (fun cv i wq => ∃ j m : Nat, j ≤ n3 ∧ m ≤ j ∧ i = .int .i64 j ∧ cv = .int .i64 m ∧ Hid (cntG (isPoolW x1) (ws.take j) = m) ∧ Hid (Below w4.heap.size w4 wq)) (fun _ i _ => n3 - (intOf i).toNat)
              case atStart => exact ⟨0, 0, Nat.zero_le _, Nat.le_refl _, rfl, rfl, by show cntG _ _ = 0; simp [cntG], Below.refl _ _⟩
              case round =>
                obtain ⟨j, m, hj, hm, rfl, rfl, HT, HB5⟩ := hrel
                have HB6 : Hid (Below W.heap.size W wr) := nx_trans HB4.out HB5.out
                have a3 := (gblk7 (gblk HW.out.2.1 HB6.out)).2.2.2.1
                by_cases hjt : j < n3
                · obtain ⟨⟨z0, z1⟩, hz⟩ : ∃ p, ws[j]? = some p := ⟨_, List.getElem?_eq_getElem (by rw [HN.out.2.2]; exact hjt)⟩
                  obtain ⟨bl', off', hao', hbl', d0, d1⟩ := wt_at (HRW.out.nx HB6.out) hz
                  obtain ⟨rfl, rfl⟩ : bl = bl' ∧ off = off' := by simpa using hao'
                  simp only at d0 d1
                  have v1 := (gblk2 (gblk HY4.out HB5.out)).2
                  have hji : (j : Int) < (n3 : Int) := by omega
                  have hnx := cntG_next (p := isPoolW x1) hz
                  rw [HT.out] at hnx
                  cases hw : (z1.toList == x1.toList) with
                  | true =>
                    have HNX : Hid (cntG (isPoolW x1) (ws.take (j + 1)) = m + 1) := by
                      have hw' : isPoolW x1 ⟨z0, z1⟩ = true := hw
                      show _ = _
                      rw [hnx, if_pos hw']
                    clear hz hnx hao'
                    go_wp2_with fail
                    go_quiet (fail)
                    go_wp2_with fail
                    go_roundw
                    case rel => exact ⟨j + 1, m + 1, by omega, by omega, by go_num, by go_num, HNX.out, below_drewN HB5.out _⟩
                    case measure => simp [intOf]; omega
                  | false =>
                    have HNX : Hid (cntG (isPoolW x1) (ws.take (j + 1)) = m) := by
                      show _ = _
                      rw [hnx, if_neg (fun h => by rw [show isPoolW x1 _ = (z1.toList == x1.toList) from rfl, hw] at h; simp at h)]
                      rfl
                    clear hz hnx hao'
                    go_wp2_with fail
                    go_quiet (fail)
                    go_wp2_with fail
                    go_roundw
                    case rel => exact ⟨j + 1, m, by omega, by omega, by go_num, rfl, HNX.out, below_drewN HB5.out _⟩
                    case measure => simp [intOf]; omega
                · have hji : ¬ (j : Int) < (n3 : Int) := by omega
                  have hmw : ¬ y2 < (m : Int) := by
                    have h1 := HT.out
                    rw [List.take_of_length_le (by rw [HN.out.2.2]; omega)] at h1
                    have h2 := HCW.out
                    rw [h1] at h2
                    omega
                  obtain ⟨pb', pf', hpo', hpb', g0, g1, g2, g3⟩ := pool_at (HR.out.1.nx HB6.out) HPP.out
                  obtain ⟨rfl, rfl⟩ : pb = pb' ∧ pf = pf' := by simpa using hpo'
                  simp only at g0 g1 g2 g3
                  have a1 := (gblk7 (gblk HW.out.2.1 HB6.out)).2.1
                  clear hpo'
                  go_wp2_with fail
                  go_roundw
                  case rel => exact ⟨q + 1, by omega, by go_num, HB6.out⟩
                  case measure => simp [intOf]; omega
        · have hqi : ¬ (q : Int) < (n3 : Int) := by omega
          go_wp2_with fail
          go_ret
          exact ⟨rfl, nx_trans HW.out.2.2 HB.out⟩
end Lw
end Go.Proofs.YtohbonfngeblkaaGreat
namespace Go.Proofs.YtohbonfngeblkaaGreat
open Go.RowKit
namespace Lw
open Co
theorem find_at {α : Type} {p : α → Bool} {l : List α} {k : Nat} {x : α} (hn : ∀ y ∈ l.take k, p y = false) (hx : l[k]? = some x) (hp : p x = true) : l.find? p = some x := by
  obtain ⟨x', h1, h2⟩ := (find_idx p l).1 k (find_hit hn hx hp)
  rw [hx] at h1
  rw [h2, Option.some.inj h1]
theorem find_no {α : Type} {p : α → Bool} {l : List α} (hn : ∀ y ∈ l, p y = false) : l.find? p = none := (find_idx p l).2 (find_miss hn)
abbrev svA (x : Srv) : Value := .agg #[.int .i64 x.id, .string x.pool, .int .i64 x.far, .int .i64 x.client]
abbrev zSrv : Srv := ⟨0, ⟨#[]⟩, 0, 0⟩
def orS (o : Option Srv) : Srv := match o with | some s => s | none => zSrv
def isId (id : Int) (x : Srv) : Bool := x.id == id
set_option maxRecDepth 20000 in
set_option maxHeartbeats 1000000 in
theorem cWaits (ao : Option Addr) (n ac : Nat) (c : Int) (ws : List Wtr) (w : World) (hr : RowAt w (.slice ao n ac) n (flatW ws)) (hn : ws.length = n) (hlen : n ≤ maxLen) :
    Calls Tryz.prog 85 #[.slice ao n ac, .int .i64 c] w fun e w' => e = .returned (.bool (ws.find? (isCliW c)).isSome) ∧ w' = w := by
  unfold maxLen at hlen
  have HR : Hid (RowAt w (.slice ao n ac) n (flatW ws) ∧ ws.length = n) := ⟨hr, hn⟩
  clear hr hn
  go_enter Tryz.func85, Tryz.ntmps85
  go_wp2_with fail
  go_loop [5] (fun i => ∃ k : Nat, k ≤ n ∧ i = .int .i64 k ∧ Hid (∀ y ∈ ws.take k, (isCliW c) y = false)) (fun i => n - (intOf i).toNat)
  case atStart => exact ⟨0, Nat.zero_le _, rfl, by intro y hy; simp at hy⟩
  case round =>
    obtain ⟨k, hk, rfl, HT⟩ := hrel
    by_cases hlt : k < n
    · have HRW := HR.out.1
      obtain ⟨⟨x0, x1⟩, hp⟩ : ∃ p, ws[k]? = some p := ⟨_, List.getElem?_eq_getElem (by rw [HR.out.2]; exact hlt)⟩
      obtain ⟨bl, off, hao, hbl, c0, c1⟩ := wt_at HRW hp
      subst hao
      simp only at c0 c1
      have hlti : (k : Int) < (n : Int) := by omega
      clear HRW
      cases hq : (x0 == c) with
      | true =>
        have HH : Hid ((ws.find? (isCliW c)).isSome = true) := List.find?_isSome.2 ⟨_, List.mem_of_getElem? hp, hq⟩
        clear hp
        go_wp2_with fail
        go_ret
        exact ⟨by rw [HH.out]; rfl, rfl⟩
      | false =>
        have HN : Hid (∀ y ∈ ws.take (k + 1), (isCliW c) y = false) := take_next HT.out hp (by show (x0 == c) = false; exact hq)
        clear hp
        go_wp2_with fail
        go_round
        case rel => exact ⟨k + 1, by omega, by go_num, HN.out⟩
        case measure => simp [intOf]; omega
    · have HM : Hid ((ws.find? (isCliW c)).isSome = false) := by
        show _ = _
        rw [List.find?_eq_none.2 (fun y hy => by rw [HT.out y (by rw [List.take_of_length_le (by rw [HR.out.2]; omega)]; exact hy)]; simp)]
        rfl
      go_wp2_with fail
      go_ret
      exact ⟨by rw [HM.out]; rfl, rfl⟩
set_option maxRecDepth 20000 in
set_option maxHeartbeats 1000000 in
theorem cIsServer (ao : Option Addr) (n ac : Nat) (c : Int) (ss : List Srv) (w : World) (hr : RowAt w (.slice ao n ac) n (flatV ss)) (hn : ss.length = n) (hlen : n ≤ maxLen) :
    Calls Tryz.prog 68 #[.slice ao n ac, .int .i64 c] w fun e w' => e = .returned (.bool (ss.find? (isId c)).isSome) ∧ w' = w := by
  unfold maxLen at hlen
  have HR : Hid (RowAt w (.slice ao n ac) n (flatV ss) ∧ ss.length = n) := ⟨hr, hn⟩
  clear hr hn
  go_enter Tryz.func68, Tryz.ntmps68
  go_wp2_with fail
  go_loop [5] (fun i => ∃ k : Nat, k ≤ n ∧ i = .int .i64 k ∧ Hid (∀ y ∈ ss.take k, (isId c) y = false)) (fun i => n - (intOf i).toNat)
  case atStart => exact ⟨0, Nat.zero_le _, rfl, by intro y hy; simp at hy⟩
  case round =>
    obtain ⟨k, hk, rfl, HT⟩ := hrel
    by_cases hlt : k < n
    · have HRW := HR.out.1
      obtain ⟨⟨x0, x1, x2, x3⟩, hp⟩ : ∃ p, ss[k]? = some p := ⟨_, List.getElem?_eq_getElem (by rw [HR.out.2]; exact hlt)⟩
      obtain ⟨bl, off, hao, hbl, c0, c1, c2, c3⟩ := sv_at HRW hp
      subst hao
      simp only at c0 c1 c2 c3
      have hlti : (k : Int) < (n : Int) := by omega
      clear HRW
      cases hq : (x0 == c) with
      | true =>
        have HH : Hid ((ss.find? (isId c)).isSome = true) := List.find?_isSome.2 ⟨_, List.mem_of_getElem? hp, hq⟩
        clear hp
        go_wp2_with fail
        go_ret
        exact ⟨by rw [HH.out]; rfl, rfl⟩
      | false =>
        have HN : Hid (∀ y ∈ ss.take (k + 1), (isId c) y = false) := take_next HT.out hp (by show (x0 == c) = false; exact hq)
        clear hp
        go_wp2_with fail
        go_round
        case rel => exact ⟨k + 1, by omega, by go_num, HN.out⟩
        case measure => simp [intOf]; omega
    · have HM : Hid ((ss.find? (isId c)).isSome = false) := by
        show _ = _
        rw [List.find?_eq_none.2 (fun y hy => by rw [HT.out y (by rw [List.take_of_length_le (by rw [HR.out.2]; omega)]; exact hy)]; simp)]
        rfl
      go_wp2_with fail
      go_ret
      exact ⟨by rw [HM.out]; rfl, rfl⟩
set_option maxRecDepth 20000 in
set_option maxHeartbeats 1000000 in
theorem cWaitersFor (ao : Option Addr) (n ac : Nat) (pool : ByteArray) (ws : List Wtr) (w : World) (hr : RowAt w (.slice ao n ac) n (flatW ws)) (hn : ws.length = n) (hlen : n ≤ maxLen) :
    Calls Tryz.prog 81 #[.slice ao n ac, .string pool] w fun e w' => e = .returned (.int .i64 (cntG (isPoolW pool) ws : Int)) ∧ w' = w := by
  unfold maxLen at hlen
  have HR : Hid (RowAt w (.slice ao n ac) n (flatW ws) ∧ ws.length = n) := ⟨hr, hn⟩
  clear hr hn
  go_enter Tryz.func81, Tryz.ntmps81
  go_wp2_with fail
  go_loop [5, 6] (fun q i => ∃ k m : Nat, k ≤ n ∧ m ≤ k ∧ i = .int .i64 k ∧ q = .int .i64 m ∧ Hid (cntG (isPoolW pool) (ws.take k) = m)) (fun _ i => n - (intOf i).toNat)
  case atStart => exact ⟨0, 0, Nat.zero_le _, Nat.le_refl _, rfl, rfl, by show cntG _ _ = 0; simp [cntG]⟩
  case round =>
    obtain ⟨k, m, hk, hm, rfl, rfl, HT⟩ := hrel
    by_cases hlt : k < n
    · have HRW := HR.out.1
      obtain ⟨⟨x0, x1⟩, hp⟩ : ∃ p, ws[k]? = some p := ⟨_, List.getElem?_eq_getElem (by rw [HR.out.2]; exact hlt)⟩
      obtain ⟨bl, off, hao, hbl, c0, c1⟩ := wt_at HRW hp
      subst hao
      simp only at c0 c1
      have hlti : (k : Int) < (n : Int) := by omega
      clear HRW
      have hnx := cntG_next (p := isPoolW pool) hp
      rw [HT.out] at hnx
      cases hq : (x1.toList == pool.toList) with
      | true =>
        have HN : Hid (cntG (isPoolW pool) (ws.take (k + 1)) = m + 1) := by
          have hq' : (isPoolW pool) ⟨x0, x1⟩ = true := hq
          show _ = _
          rw [hnx, if_pos hq']
        clear hp hnx
        go_wp2_with fail
        go_round
        case rel => exact ⟨k + 1, m + 1, by omega, by omega, by go_num, by go_num, HN.out⟩
        case measure => simp [intOf]; omega
      | false =>
        have HN : Hid (cntG (isPoolW pool) (ws.take (k + 1)) = m) := by
          have hq' : ¬ (isPoolW pool) ⟨x0, x1⟩ = true := fun h => by rw [show (isPoolW pool) ⟨x0, x1⟩ = (x1.toList == pool.toList) from rfl, hq] at h; simp at h
          show _ = _
          rw [hnx, if_neg hq']
          rfl
        clear hp hnx
        go_wp2_with fail
        go_round
        case rel => exact ⟨k + 1, m, by omega, by omega, by go_num, rfl, HN.out⟩
        case measure => simp [intOf]; omega
    · have HM : Hid (cntG (isPoolW pool) ws = m) := by
        show _ = _
        rw [← HT.out, List.take_of_length_le (by rw [HR.out.2]; omega)]
      go_wp2_with fail
      go_ret
      exact ⟨by rw [HM.out]; rfl, rfl⟩
set_option maxRecDepth 20000 in
set_option maxHeartbeats 1000000 in
theorem cHeldBy (ao : Option Addr) (n ac : Nat) (c : Int) (ss : List Srv) (w : World) (hr : RowAt w (.slice ao n ac) n (flatV ss)) (hn : ss.length = n) (hlen : n ≤ maxLen) :
    Calls Tryz.prog 80 #[.slice ao n ac, .int .i64 c] w fun e w' => e = .returned (svA (orS (ss.find? (isCliV c)))) ∧ Below w.heap.size w w' := by
  unfold maxLen at hlen
  have HR : Hid (RowAt (w.alloc (.cells #[.int .i64 0, .string ⟨#[]⟩, .int .i64 0, .int .i64 0] 55)) (.slice ao n ac) n (flatV ss) ∧ ss.length = n) := ⟨hr.nx (nx_alloc _ _), hn⟩
  clear hr hn
  go_enter Tryz.func80, Tryz.ntmps80
  go_wp2_with fail
  go_loop [5] (fun i => ∃ k : Nat, k ≤ n ∧ i = .int .i64 k ∧ Hid (∀ y ∈ ss.take k, (isCliV c) y = false)) (fun i => n - (intOf i).toNat)
  case atStart => exact ⟨0, Nat.zero_le _, rfl, by intro y hy; simp at hy⟩
  case round =>
    obtain ⟨k, hk, rfl, HT⟩ := hrel
    by_cases hlt : k < n
    · have HRW := HR.out.1
      obtain ⟨⟨x0, x1, x2, x3⟩, hp⟩ : ∃ p, ss[k]? = some p := ⟨_, List.getElem?_eq_getElem (by rw [HR.out.2]; exact hlt)⟩
      obtain ⟨bl, off, hao, hbl, c0, c1, c2, c3⟩ := sv_at HRW hp
      subst hao
      simp only at c0 c1 c2 c3
      have hlti : (k : Int) < (n : Int) := by omega
      clear HRW
      cases hq : (x3 == c) with
      | true =>
        have HH : Hid (ss.find? (isCliV c) = some ⟨x0, x1, x2, x3⟩) := find_at HT.out hp hq
        clear hp
        go_wp2_with fail
        refine bodyPost_ret (v := svA ⟨x0, x1, x2, x3⟩) (by simp [results, Tryz.results80, go_sem]) rfl ⟨by rw [HH.out]; rfl, ?_⟩
        exact nx_alloc _ _
      | false =>
        have HN : Hid (∀ y ∈ ss.take (k + 1), (isCliV c) y = false) := take_next HT.out hp (by show (x3 == c) = false; exact hq)
        clear hp
        go_wp2_with fail
        go_round
        case rel => exact ⟨k + 1, by omega, by go_num, HN.out⟩
        case measure => simp [intOf]; omega
    · have HM : Hid (ss.find? (isCliV c) = none) := find_no (fun y hy => HT.out y (by rw [List.take_of_length_le (by rw [HR.out.2]; omega)]; exact hy))
      go_wp2_with fail
      refine bodyPost_ret (v := svA zSrv) (by simp [results, Tryz.results80, go_sem]) rfl ⟨by rw [HM.out]; rfl, ?_⟩
      exact nx_alloc _ _
theorem cFirstIdle (ao : Option Addr) (n ac : Nat) (ss : List Srv) (w : World) (hr : RowAt w (.slice ao n ac) n (flatV ss)) (hn : ss.length = n) (hlen : n ≤ maxLen) :
    Calls Tryz.prog 137 #[.slice ao n ac] w fun e w' => e = .returned (svA (orS (ss.find? (isCliV 0)))) ∧ Below w.heap.size w w' := by
  have HH := hideIt (cHeldBy ao n ac 0 ss (w.alloc (.cells #[.int .i64 0, .string ⟨#[]⟩, .int .i64 0, .int .i64 0] 55)) (hr.nx (nx_alloc _ _)) hn hlen)
  clear hr hn
  go_enter Tryz.func137, Tryz.ntmps137
  go_wp2_with fail
  refine HH.out.mono ?_
  rintro e w1 ⟨rfl, hb⟩
  obtain ⟨⟨x0, x1, x2, x3⟩, hx⟩ : ∃ x, orS (ss.find? (isCliV 0)) = x := ⟨_, rfl⟩
  rw [hx]
  have HX := hideIt hx
  obtain ⟨y0, y1, y2, y3, yz⟩ := blk4 hb (g := w.heap.size) (by simp) (heap_alloc_at _ _ rfl)
  have KB : Hid (Below w.heap.size w w1) := nx_trans (nx_alloc _ _) hb
  clear hb hx HH
  go_wp2_with fail
  refine bodyPost_ret (v := svA ⟨x0, x1, x2, x3⟩) (by simp [results, Tryz.results137, go_sem, y0, y1, y2, y3]) rfl ⟨by rw [HX.out], ?_⟩
  have hg : w.heap.size ≤ w.heap.size := Nat.le_refl _
  exact (((KB.out.setCell hg _).setCell hg _).setCell hg _).setCell hg _
abbrev zPl : Pl := ⟨⟨#[]⟩, 0, 0, 0⟩
def findV (o : Option Pl) : Value := match o with | some p => .tuple #[plA p, .bool true] | none => .tuple #[plA zPl, .bool false]
set_option maxRecDepth 20000 in
set_option maxHeartbeats 1000000 in
theorem cFind (ao : Option Addr) (n ac : Nat) (name : ByteArray) (ps : List Pl) (w : World) (hr : RowAt w (.slice ao n ac) n (flatP ps)) (hn : ps.length = n) (hlen : n ≤ maxLen) :
    Calls Tryz.prog 78 #[.slice ao n ac, .string name] w fun e w' => e = .returned (findV (ps.find? (isNameP name))) ∧ Below w.heap.size w w' := by
  unfold maxLen at hlen
  have HR : Hid (RowAt (w.alloc (bPl zPl)) (.slice ao n ac) n (flatP ps) ∧ ps.length = n) := ⟨hr.nx (nx_alloc _ _), hn⟩
  clear hr hn
  go_enter Tryz.func78, Tryz.ntmps78
  go_wp2_with fail
  go_loop [6] (fun i => ∃ k : Nat, k ≤ n ∧ i = .int .i64 k ∧ Hid (∀ y ∈ ps.take k, (isNameP name) y = false)) (fun i => n - (intOf i).toNat)
  case atStart => exact ⟨0, Nat.zero_le _, rfl, by intro y hy; simp at hy⟩
  case round =>
    obtain ⟨k, hk, rfl, HT⟩ := hrel
    by_cases hlt : k < n
    · have HRW := HR.out.1
      obtain ⟨⟨x0, x1, x2, x3⟩, hp⟩ : ∃ p, ps[k]? = some p := ⟨_, List.getElem?_eq_getElem (by rw [HR.out.2]; exact hlt)⟩
      obtain ⟨bl, off, hao, hbl, c0, c1, c2, c3⟩ := pool_at HRW hp
      subst hao
      simp only at c0 c1 c2 c3
      have hlti : (k : Int) < (n : Int) := by omega
      clear HRW
      cases hq : (x0.toList == name.toList) with
      | true =>
        have HH : Hid (ps.find? (isNameP name) = some ⟨x0, x1, x2, x3⟩) := find_at HT.out hp hq
        clear hp
        go_wp2_with fail
        refine bodyPost_ret (v := .tuple #[plA ⟨x0, x1, x2, x3⟩, .bool true]) (by simp [results, Tryz.results78, go_sem]) rfl ⟨by rw [HH.out]; rfl, ?_⟩
        exact nx_alloc _ _
      | false =>
        have HN : Hid (∀ y ∈ ps.take (k + 1), (isNameP name) y = false) := take_next HT.out hp (by show (x0.toList == name.toList) = false; exact hq)
        clear hp
        go_wp2_with fail
        go_round
        case rel => exact ⟨k + 1, by omega, by go_num, HN.out⟩
        case measure => simp [intOf]; omega
    · have HM : Hid (ps.find? (isNameP name) = none) := find_no (fun y hy => HT.out y (by rw [List.take_of_length_le (by rw [HR.out.2]; omega)]; exact hy))
      go_wp2_with fail
      refine bodyPost_ret (v := .tuple #[plA zPl, .bool false]) (by simp [results, Tryz.results78, go_sem]) rfl ⟨by rw [HM.out]; rfl, ?_⟩
      exact nx_alloc _ _
theorem cIsClient (c : Int) (w : World) : Calls Tryz.prog 76 #[.int .i64 c] w fun e w' => e = .returned (.bool (decide (1 ≤ c) && decide (c ≤ 99))) ∧ w' = w := by
  by_cases h1 : 1 ≤ c
  · by_cases h2 : c ≤ 99
    · go_enter Tryz.func76, Tryz.ntmps76
      go_wp2_with fail
      go_ret
      exact ⟨by simp [h1, h2], rfl⟩
    · go_enter Tryz.func76, Tryz.ntmps76
      go_wp2_with fail
      go_ret
      exact ⟨by simp [h2], rfl⟩
  · go_enter Tryz.func76, Tryz.ntmps76
    go_wp2_with fail
    go_ret
    exact ⟨by simp; omega, rfl⟩
end Lw
end Go.Proofs.YtohbonfngeblkaaGreat
