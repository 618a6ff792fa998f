import Derived.Test.YtmmmjpkhnbfnbaaGreatMgAm
namespace Go.Proofs.YtmmmjpkhnbfnbaaGreat
open Go.RowKit
namespace Co

theorem value_0 (i0 : Nat) (ao : Option Addr) (cap m : Nat) (ls : List RL) (w : World) (hl : RLinesAt w (.slice ao m cap) ls) (hm : ls.length = m) (hm1 : m ≤ 1001) (hi0 : i0 < m) (hb : AllB (bareR ls)) (hsl : ∀ l ∈ bareR ls, l.sets.length ≤ 1001) :
    Calls Tryz.prog 61 #[.slice ao m cap, .int .i64 (i0 : Int), .int .i64 0] w fun e w' => e = .returned (.int .i64 (vI (bareR ls) 0 (i0 :: chI (bareR ls) m i0))) ∧ Below w.heap.size w w' := value_any i0 0 ao cap m ls w hl hm hm1 hi0 hb hsl
theorem value_1 (i0 : Nat) (ao : Option Addr) (cap m : Nat) (ls : List RL) (w : World) (hl : RLinesAt w (.slice ao m cap) ls) (hm : ls.length = m) (hm1 : m ≤ 1001) (hi0 : i0 < m) (hb : AllB (bareR ls)) (hsl : ∀ l ∈ bareR ls, l.sets.length ≤ 1001) :
    Calls Tryz.prog 61 #[.slice ao m cap, .int .i64 (i0 : Int), .int .i64 1] w fun e w' => e = .returned (.int .i64 (vI (bareR ls) 1 (i0 :: chI (bareR ls) m i0))) ∧ Below w.heap.size w w' := value_any i0 1 ao cap m ls w hl hm hm1 hi0 hb hsl
theorem value_2 (i0 : Nat) (ao : Option Addr) (cap m : Nat) (ls : List RL) (w : World) (hl : RLinesAt w (.slice ao m cap) ls) (hm : ls.length = m) (hm1 : m ≤ 1001) (hi0 : i0 < m) (hb : AllB (bareR ls)) (hsl : ∀ l ∈ bareR ls, l.sets.length ≤ 1001) :
    Calls Tryz.prog 61 #[.slice ao m cap, .int .i64 (i0 : Int), .int .i64 2] w fun e w' => e = .returned (.int .i64 (vI (bareR ls) 2 (i0 :: chI (bareR ls) m i0))) ∧ Below w.heap.size w w' := value_any i0 2 ao cap m ls w hl hm hm1 hi0 hb hsl
theorem fold_len (L : List Ln) : ∀ (R : List Ln) (k : Nat) (ps : List Pl), (foldR L k R ps).length ≤ ps.length + R.length
  | [], _, ps => by simp [foldR]
  | l :: r, k, ps => by
    rw [foldR]
    have := fold_len L r (k + 1) (if l.kind = 3 then insP (plR L k l) ps else ps)
    split at this
    · rename_i h; rw [if_pos h]; rw [insP_len] at this; simp; omega
    · rename_i h; rw [if_neg h]; simp; omega
theorem chER_all {L : List Ln} (h : (chER L).1 = 0) : AllB L := by
  unfold chER at h
  cases hno : noC L L with
  | some k => rw [hno] at h; simp at h
  | none => exact noC_all L L hno
/-- the reference's Compile in its loop -/
def CS (w : World) (g : Nat) (wr : World) (b : Int) (v : Value) (q : Nat) (ps : List Pl) : Prop :=
  wr.heap[w.heap.size]? = some (bTab 0 (.slice none 0 0)) ∧ wr.heap[g]? = some (bTab b v) ∧ wr.ownsRow (g + 1) 70 4 v q (flatP ps) ∧ Below w.heap.size w wr ∧ w.heap.size < g ∧ g < wr.heap.size
theorem CS.nx {w : World} {g : Nat} {wr wr' : World} {b : Int} {v : Value} {q : Nat} {ps : List Pl} (h : CS w g wr b v q ps) (hb : Below wr.heap.size wr wr') : CS w g wr' b v q ps :=
  ⟨(hb.block _ (by have := h.2.2.2.2; omega)).trans h.1, (hb.block _ h.2.2.2.2.2).trans h.2.1, own_below h.2.2.1 hb, nx_trans h.2.2.2.1 hb, h.2.2.2.2.1, Nat.lt_of_lt_of_le h.2.2.2.2.2 hb.size⟩
theorem CS.put {w : World} {g : Nat} {wr : World} {b : Int} {v v' : Value} {q q' B : Nat} {ps ps' : List Pl} (h : CS w g wr b v q ps) (ho : wr.ownsRow B 70 4 v' q' (flatP ps')) (hB : g + 1 ≤ B) :
    CS w g ((wr.setCell ⟨g, 0, none⟩ (.int .i64 b)).setCell ⟨g, 1, none⟩ v') b v' q' ps' := by
  have e1 := set_heap _ g 0 (.int .i64 b) _ _ h.2.1
  have e2 := set_heap _ g 1 v' _ _ e1
  refine ⟨?_, e2, ?_, ?_, h.2.2.2.2.1, by simpa using h.2.2.2.2.2⟩
  · exact (Below.heap_setCell _ _ _ _ (by show w.heap.size ≠ g; have := h.2.2.2.2.1; omega)).trans ((Below.heap_setCell _ _ _ _ (by show w.heap.size ≠ g; have := h.2.2.2.2.1; omega)).trans h.1)
  · exact ownsRow_setCell_below (ownsRow_setCell_below (own_mono ho hB) (by show g < _; omega) _) (by show g < _; omega) _
  · exact (h.2.2.2.1.setCell (by show w.heap.size ≤ g; have := h.2.2.2.2.1; omega) _).setCell (by show w.heap.size ≤ g; have := h.2.2.2.2.1; omega) _

set_option maxRecDepth 20000 in
set_option maxHeartbeats 4000000 in
theorem rcompile_any (s : ByteArray) (w : World) (hs : s.size ≤ maxLen) :
    Calls Tryz.prog 23 #[.string s] w fun e w' => Gave (ans s) w w' e := by
  unfold maxLen at hs
  by_cases hlong : 1000 < s.size
  · have HA : Hid (ans s = ⟨(0, []), 1, 0⟩) := by show _ = _; rw [ans, if_pos hlong]
    have hli : (1000 : Int) < (s.size : Int) := by omega
    go_enter Tryz.func23, Tryz.ntmps23
    go_wp2_with fail
    refine bodyPost_ret (v := .tuple #[.agg #[.int .i64 0, .slice none 0 0], .int .i64 1, .int .i64 0]) (by simp [results, Tryz.results23, go_sem]) rfl ?_
    exact gave_err rfl (by rw [HA.out]) (by rw [HA.out]; rfl) (by rw [HA.out]; rfl) (nx_alloc _ _)
  · have hs2 : s.size ≤ 1000 := by omega
    have hli : ¬ (1000 : Int) < (s.size : Int) := by omega
    have H0 : Hid ((w.alloc (bTab 0 (.slice none 0 0))).heap[w.heap.size]? = some (bTab 0 (.slice none 0 0))) := heap_alloc_at' _ _ rfl
    have HRL := hideIt (read_any s (w.alloc (bTab 0 (.slice none 0 0))) hs2)
    have HSM := hideIt (rd_small s hs2)
    have HAA := hideIt (ans_ref s hs2)
    clear hlong
    go_enter Tryz.func23, Tryz.ntmps23
    go_wp2_with fail
    refine HRL.out.mono ?_
    rintro e w1 (⟨hbad, rfl, hb1⟩ | ⟨ls, ao, cap, hz, hls, hn1, hn0, rfl, hl, hb1⟩)
    · obtain ⟨er, her⟩ : ∃ er, (rd s).err = er := ⟨_, rfl⟩
      obtain ⟨pl, hpl⟩ : ∃ pl, (rd s).at' = pl := ⟨_, rfl⟩
      rw [her] at hbad
      rw [her, hpl]
      have HA : Hid (ans s = ⟨(0, []), er, pl⟩) := by show _ = _; rw [HAA.out (fun h => absurd (her ▸ h) hbad), her, hpl, if_pos hbad]
      have hh0 : w1.heap[w.heap.size]? = some (bTab 0 (.slice none 0 0)) := (hb1.block _ (by simp)).trans H0.out
      obtain ⟨e0, e1, ze⟩ := blk2 hh0
      have herb : ((er : Int) != 0) = true := by rw [bne_iff_ne]; omega
      have HB : Hid (Below w.heap.size w w1) := nx_trans (nx_alloc _ _) hb1
      clear hb1 her hpl hbad hh0
      go_wp2_with fail
      refine bodyPost_ret (v := .tuple #[.agg #[.int .i64 0, .slice none 0 0], .int .i64 er, .int .i64 pl]) (by simp [results, Tryz.results23, go_sem, e0, e1]) rfl ?_
      exact gave_err rfl (by rw [HA.out]) (by rw [HA.out]) (by rw [HA.out]) ((HB.out.setCell (Nat.le_refl _) _).setCell (Nat.le_refl _) _)
    · obtain ⟨n, hn⟩ : ∃ n, ls.length = n := ⟨_, rfl⟩
      obtain ⟨L, hL⟩ : ∃ L, bareR ls = L := ⟨_, rfl⟩
      have hLn : L.length = n := by rw [← hL, bareR_len, hn]
      have HSL : Hid (∀ l ∈ bareR ls, l.sets.length ≤ 1001) := by rw [← hls]; exact HSM.out
      have HAB : Hid (ans s = if (chER L).1 ≠ 0 then ⟨(0, []), (chER L).1, (chER L).2⟩ else ⟨((bud0 L : Int), foldR L 0 L []), 0, 0⟩) := by
        show _ = _
        rw [HAA.out (fun _ => by rw [hls, bareR_len]; exact hn0), if_neg (by simp [hz]), hls, hL]
      have hinv := rd_inv s hz
      rw [hls, hL] at hinv
      rw [hn] at hl hn1 ⊢
      have HL : Hid (RLinesAt w1 (.slice ao n cap) ls ∧ ls.length = n ∧ bareR ls = L ∧ L.length = n ∧ Inv L) := ⟨hl, hn, hL, hLn, hinv⟩
      have hh0 : w1.heap[w.heap.size]? = some (bTab 0 (.slice none 0 0)) := (hb1.block _ (by simp)).trans H0.out
      have hlt1 : w.heap.size < w1.heap.size := sz_lt hb1
      have HB : Hid (Below w.heap.size w w1 ∧ w1.heap[w.heap.size]? = some (bTab 0 (.slice none 0 0))) := ⟨nx_trans (nx_alloc _ _) hb1, hh0⟩
      have HCF := hideIt (bases_any ao cap n ls w1 hl hn hn1)
      rw [hL] at HCF
      have hn0' : 0 < n := by omega
      clear hl hn hls hz hb1 hh0 HAA hL hLn hinv hn0
      go_wp2_with fail
      refine HCF.out.mono ?_
      rintro e w2 ⟨rfl, hb2⟩
      obtain ⟨⟨er, pl⟩, hce⟩ : ∃ ce, chER L = ce := ⟨_, rfl⟩
      rw [hce]
      simp only
      have hh0 : w2.heap[w.heap.size]? = some (bTab 0 (.slice none 0 0)) := (hb2.block _ hlt1).trans HB.out.2
      by_cases her : er = 0
      · have HA : Hid (ans s = ⟨((bud0 L : Int), foldR L 0 L []), 0, 0⟩ ∧ AllB L) := ⟨by rw [HAB.out, hce, if_neg (by simp [her])], chER_all (by rw [hce]; exact her)⟩
        have HB2 : Hid (Below w.heap.size w w2 ∧ w.heap.size < w2.heap.size ∧ w2.heap[w.heap.size]? = some (bTab 0 (.slice none 0 0)) ∧ RLinesAt w2 (.slice ao n cap) ls) := ⟨nx_trans HB.out.1 hb2, Nat.lt_of_lt_of_le hlt1 hb2.size, hh0, HL.out.1.nx hb2⟩
        obtain ⟨⟨l, kv, vv⟩, hp⟩ : ∃ p, ls[0]? = some p := ⟨_, List.getElem?_eq_getElem (by rw [HL.out.2.1]; exact hn0')⟩
        obtain ⟨bl, off, ko, kc, vo, vc, hao, hbl, _, _, _, hrv, c0, c1, c2, c3, c4, c5⟩ := HB2.out.2.2.2.at hp
        have hlp : L[0]? = some l := by rw [← HL.out.2.2.1]; exact bareR_at hp
        obtain ⟨x, hx⟩ : ∃ x, l.sets = [(3, x)] := by
          rcases (HL.out.2.2.2.2.1 l (List.mem_of_getElem? hlp)).1 with ⟨_, _, _, x, h⟩ | ⟨h, _⟩
          · exact ⟨x, h⟩
          · have := (HL.out.2.2.2.2.2.2 0 l hlp).1 rfl; omega
        have hbx : bud0 L = x := by
          match L, hlp with
          | l' :: r, hlp => simp at hlp; subst hlp; simp [bud0, hx]
        rw [hbx] at HA
        have hv1 : l.sets.length = 1 := by rw [hx]; rfl
        have hvv : valsOf l = [x] := by rw [valsOf, hx]; rfl
        rw [hv1, hvv] at hrv
        rw [hv1] at c4
        obtain ⟨blv, offv, hvo, hblv, cv⟩ := ints_row hrv (show [x][0]? = some x from rfl)
        simp only [Nat.zero_mul, Nat.add_zero] at c4 cv
        have hn0i : (0 : Int) < (n : Int) := by omega
        obtain ⟨W3, hW3⟩ : ∃ W3, W3 = w2.alloc (bTab (x : Int) (.slice none 0 0)) := ⟨_, rfl⟩
        have H3 : Hid (W3 = w2.alloc (bTab (x : Int) (.slice none 0 0)) ∧ Below w2.heap.size w2 W3) := ⟨hW3, by rw [hW3]; exact nx_alloc _ _⟩
        have HCS : Hid (CS w w2.heap.size W3 (x : Int) (.slice none 0 0) 0 []) := by
          rw [hW3]
          exact ⟨(heap_alloc_lt' _ _ HB2.out.2.1).trans hh0, heap_alloc_at' _ _ rfl, World.ownsRow_nil _ _ _ _, nx_trans HB2.out.1 (nx_alloc _ _), HB2.out.2.1, by simp⟩
        subst hao hvo her
        clear hce hh0 hb2 hp hlp hx hbx hv1 hvv hrv c0 c1 c2 c3 c5 hW3 HCF
        go_wp2_with fail
        rw [← H3.out.1]
        obtain ⟨g, hg⟩ : ∃ g, w2.heap.size = g := ⟨_, rfl⟩
        rw [hg] at HCS ⊢
        have HG := hideIt hg
        clear hg c4 cv
        go_loopw [9] (fun i wr => ∃ (k q : Nat) (ps : List Pl) (vo : Option Addr) (vc : Nat), k ≤ n ∧ i = .int .i64 k ∧ q ≤ k ∧ Hid (foldR L 0 L [] = foldR L k (L.drop k) ps ∧ ps.length = q) ∧ Hid (CS w g wr (x : Int) (.slice vo q vc) q ps ∧ Below w2.heap.size w2 wr)) (fun i _ => n - (intOf i).toNat)
        case atStart => exact ⟨0, 0, [], none, 0, Nat.zero_le _, rfl, Nat.le_refl _, ⟨rfl, rfl⟩, HCS.out, H3.out.2⟩
        case round =>
          obtain ⟨k, q, ps, vo, vc, hk, rfl, hq, HS, HC⟩ := hrel
          by_cases hlt : k < n
          · obtain ⟨⟨l2, kv2, vv2⟩, hp⟩ : ∃ p, ls[k]? = some p := ⟨_, List.getElem?_eq_getElem (by rw [HL.out.2.1]; exact hlt)⟩
            have hlr := HB2.out.2.2.2.nx HC.out.2
            obtain ⟨bl2, off2, ko2, kc2, vo2, vc2, hao2, hbl2, _, _, _, _, c0, c1, c2, c3, c4, c5⟩ := hlr.at hp
            obtain ⟨rfl, rfl⟩ : bl = bl2 ∧ off = off2 := by simpa using hao2
            have hlp : L[k]? = some l2 := by rw [← HL.out.2.2.1]; exact bareR_at hp
            have HD : Hid (L.drop k = l2 :: L.drop (k + 1)) := drop_at hlp
            have hlti : (k : Int) < (n : Int) := by omega
            have hkb : ((kwK l2.kind).toList == [112, 111, 111, 108]) = decide (l2.kind = 3) := by
              have := kwK_eq l2.kind 3
              rw [kwK_list 3] at this
              exact this
            obtain ⟨lw, hlw⟩ : ∃ lw, kwK l2.kind = lw := ⟨_, rfl⟩
            rw [hlw] at c0 hkb
            by_cases h3 : l2.kind = 3
            · have hkb2 : (lw.toList == [112, 111, 111, 108]) = true := by rw [hkb]; simp [h3]
              have HX : Hid (foldR L 0 L [] = foldR L (k + 1) (L.drop (k + 1)) (insP (plR L k l2) ps)) := by
                show _ = _
                rw [HS.out.1, HD.out, foldR, if_pos h3]
              have HV0 := hideIt (fun w0 hl0 => value_0 k (some ⟨bl, off, none⟩) cap n ls w0 hl0 HL.out.2.1 hn1 hlt (by rw [HL.out.2.2.1]; exact HA.out.2) HSL.out)
              have HV1 := hideIt (fun w0 hl0 => value_1 k (some ⟨bl, off, none⟩) cap n ls w0 hl0 HL.out.2.1 hn1 hlt (by rw [HL.out.2.2.1]; exact HA.out.2) HSL.out)
              have HV2 := hideIt (fun w0 hl0 => value_2 k (some ⟨bl, off, none⟩) cap n ls w0 hl0 HL.out.2.1 hn1 hlt (by rw [HL.out.2.2.1]; exact HA.out.2) HSL.out)
              have HPR : Hid (plR L k l2 = ⟨l2.name, vI L 0 (k :: chI L n k), vI L 1 (k :: chI L n k), vI L 2 (k :: chI L n k)⟩) := by
                show _ = _
                rw [plR, HL.out.2.2.2.1]
              rw [HL.out.2.2.1] at HV0 HV1 HV2
              obtain ⟨v0, hv0⟩ : ∃ v, vI L 0 (k :: chI L n k) = v := ⟨_, rfl⟩
              obtain ⟨v1, hv1⟩ : ∃ v, vI L 1 (k :: chI L n k) = v := ⟨_, rfl⟩
              obtain ⟨v2, hv2⟩ : ∃ v, vI L 2 (k :: chI L n k) = v := ⟨_, rfl⟩
              rw [hv0] at HV0 HPR
              rw [hv1] at HV1 HPR
              rw [hv2] at HV2 HPR
              rw [HPR.out] at HX
              have HLR := hideIt hlr
              clear hlr hp hlp hao2 hv0 hv1 hv2 h3 hkb hlw c2 c3 c4 c5
              go_wp2_with fail
              refine (HV0.out wr HLR.out).mono ?_; rintro e w3 ⟨rfl, hb3⟩
              go_wp2_with fail
              refine (HV1.out w3 (HLR.out.nx hb3)).mono ?_; rintro e w4 ⟨rfl, hb4⟩
              go_wp2_with fail
              refine (HV2.out w4 ((HLR.out.nx hb3).nx hb4)).mono ?_; rintro e w5 ⟨rfl, hb5⟩
              have hb35 := nx_trans (nx_trans hb3 hb4) hb5
              have d1 : w5.cell? ⟨bl, off + k * 6 + 1, none⟩ = some (.string l2.name) := (hb35.cell (p := ⟨bl, off + k * 6 + 1, none⟩) hbl2).trans c1
              have HC5 : Hid (CS w g w5.drew (x : Int) (.slice vo q vc) q ps ∧ Below w2.heap.size w2 w5.drew) := ⟨(HC.out.1.nx hb35).nx ((Below.refl _ _).drew), nx_trans HC.out.2 (nx_trans hb35 (Below.refl _ _).drew)⟩
              obtain ⟨g0, g1, gz⟩ := blk2 (show w5.heap[g]? = some (bTab (x : Int) (.slice vo q vc)) from HC5.out.1.2.1)
              have HJN := hideIt (joined_any (x : Int) ⟨l2.name, v0, v1, v2⟩ vo vc q ps w5.drew (own_row HC5.out.1.2.2.1) HS.out.2 (by omega))
              obtain ⟨q6, hq6⟩ : ∃ q6, (insP (Pl.mk l2.name v0 v1 v2) ps).length = q6 := ⟨_, rfl⟩
              have hq6' : q6 ≤ q + 1 := by rw [← hq6, insP_len, HS.out.2]; omega
              rw [hq6] at HJN
              have HQ6 := hideIt hq6
              clear hb3 hb4 hb5 hb35 c0 c1 hq6
              go_wp2_with fail
              go_region_with (go_at_call 62; refine HJN.out.mono ?_; rintro e w6 ⟨vo6, vc6, rfl, hown6, hb6⟩; obtain ⟨k0, k1, kz⟩ := blk2 (HC5.out.1.nx hb6).2.1)
              all_goals
                have HC6 : Hid (CS w g ((w6.setCell ⟨g, 0, none⟩ (.int .i64 (x : Int))).setCell ⟨g, 1, none⟩ (.slice vo6 q6 vc6)) (x : Int) (.slice vo6 q6 vc6) q6 (insP (Pl.mk l2.name v0 v1 v2) ps) ∧ Below w2.heap.size w2 ((w6.setCell ⟨g, 0, none⟩ (.int .i64 (x : Int))).setCell ⟨g, 1, none⟩ (.slice vo6 q6 vc6))) :=
                  ⟨(HC5.out.1.nx hb6).put hown6 HC5.out.1.2.2.2.2.2, ((nx_trans HC5.out.2 hb6).setCell (by show w2.heap.size ≤ g; rw [HG.out]; omega) _).setCell (by show w2.heap.size ≤ g; rw [HG.out]; omega) _⟩
                clear hown6 hb6
                go_wp2_with fail
                go_roundw
                case rel =>
                  repeat apply Exists.intro
                  exact ⟨⟨k + 1, q6, insP (Pl.mk l2.name v0 v1 v2) ps, vo6, vc6, by omega, by go_num, by omega, ⟨HX.out, HQ6.out⟩, HC6.out⟩, rfl⟩
                case measure => simp [intOf]; omega
            · have hkb2 : (lw.toList == [112, 111, 111, 108]) = false := by rw [hkb]; simp [h3]
              have HX : Hid (foldR L 0 L [] = foldR L (k + 1) (L.drop (k + 1)) ps) := by
                show _ = _
                rw [HS.out.1, HD.out, foldR, if_neg h3]
              clear hlr hp hlp hao2 h3 hkb hlw c1 c2 c3 c4 c5
              go_wp2_with fail
              go_roundw
              case rel => exact ⟨k + 1, q, ps, vo, vc, by omega, by go_num, by omega, ⟨HX.out, HS.out.2⟩, HC.out⟩
              case measure => simp [intOf]; omega
          · have HX : Hid (foldR L 0 L [] = ps ∧ ps.length = q) := ⟨by rw [HS.out.1, List.drop_of_length_le (by rw [HL.out.2.2.2.1]; omega)]; rfl, HS.out.2⟩
            obtain ⟨e0, e1, ze⟩ := blk2 HC.out.1.1
            obtain ⟨g0, g1, gz⟩ := blk2 HC.out.1.2.1
            have hgi := HC.out.1.2.2.2.2.1
            go_wp2_with fail
            refine bodyPost_ret (v := .tuple #[.agg #[.int .i64 (x : Int), .slice vo q vc], .int .i64 0, .int .i64 0]) (by simp [results, Tryz.results23, go_sem, e0, e1]) rfl ⟨vo, vc, ?_, ?_, ?_⟩
            · rw [HA.out.1, HX.out.1]; simp only; rw [HX.out.2]; rfl
            · rw [HA.out.1, HX.out.1]; simp only; rw [HX.out.2]
              exact own_mono (ownsRow_setCell_below (ownsRow_setCell_below HC.out.1.2.2.1 (by show w.heap.size < _; omega) _) (by show w.heap.size < _; omega) _) (by omega)
            · exact (HC.out.1.2.2.2.1.setCell (Nat.le_refl _) _).setCell (Nat.le_refl _) _
      · have HA : Hid (ans s = ⟨(0, []), er, pl⟩) := by show _ = _; rw [HAB.out, hce, if_pos her]
        obtain ⟨e0, e1, ze⟩ := blk2 hh0
        have herb : ((er : Int) != 0) = true := by rw [bne_iff_ne]; omega
        have HB2 : Hid (Below w.heap.size w w2) := nx_trans HB.out.1 hb2
        clear hce her hh0 hb2
        go_wp2_with fail
        refine bodyPost_ret (v := .tuple #[.agg #[.int .i64 0, .slice none 0 0], .int .i64 er, .int .i64 pl]) (by simp [results, Tryz.results23, go_sem, e0, e1]) rfl ?_
        exact gave_err rfl (by rw [HA.out]) (by rw [HA.out]) (by rw [HA.out]) ((HB2.out.setCell (Nat.le_refl _) _).setCell (Nat.le_refl _) _)
end Co
end Go.Proofs.YtmmmjpkhnbfnbaaGreat
