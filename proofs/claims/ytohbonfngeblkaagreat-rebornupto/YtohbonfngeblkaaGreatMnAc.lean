import Derived.Test.YtohbonfngeblkaaGreatMnAb
namespace Go.Proofs.YtohbonfngeblkaaGreat
open Go.RowKit
namespace Lw
open Co
def keepF (pool : ByteArray) (far : Int) (x : Srv) : Bool := (x.client != 0) || !othF pool far x
def cShutF (S : Sta) (pool : ByteArray) (far : Int) : Sta := { S with srv := S.srv.filter (keepF pool far) }
set_option maxRecDepth 20000 in
set_option maxHeartbeats 4000000 in
theorem dShutF (gp : Nat) (pool : ByteArray) (far : Int) (S : Sta) (X : Aux) (F : Nat → Prop) (w : World) (h : DeskAt w gp S X F) (hq0 : S.srv.length ≤ 1099511627776) :
    Calls Tryz.prog 106 #[.pointer (some ⟨gp, 0, none⟩), .string pool, .int .i64 far] w fun e w' => (∃ x, e = .returned x) ∧ Moved w w' gp (cShutF S pool far) X F := by
  obtain ⟨po, pc, so, sc, wo, wc, yo, yc, ho, hc, hx⟩ := h.ex
  have hgplt : gp < w.heap.size := h.lt gp h.gp
  obtain ⟨n2, hn2⟩ : ∃ n, S.srv.length = n := ⟨_, rfl⟩
  have HN := hideIt hn2
  rw [hn2] at hq0
  have HX := hideIt hx
  have HH := hideIt h
  have HRW : Hid (RowAt w (.slice so n2 sc) n2 (flatV S.srv)) := by have := own_row hx.s.own; rw [hn2] at this; exact this
  clear h hx hn2
  go_enter Tryz.func106, Tryz.ntmps106
  go_wp2_with fail
  go_loopw [6, 7, 8] (fun l i p8 wr => ∃ (k m : Nat) (vo : Option Addr) (vc : Nat), k ≤ n2 ∧ m ≤ k ∧ i = .int .i64 k ∧ l = .slice vo m vc ∧ Hid (((S.srv.take k).filter (keepF pool far)).length = m ∧ wr.ownsRow w.heap.size 55 4 (.slice vo m vc) m (flatV ((S.srv.take k).filter (keepF pool far))) ∧ Below w.heap.size w wr)) (fun _ i _ _ => n2 - (intOf i).toNat)
  case atStart => exact ⟨0, 0, some ⟨w.heap.size, 0, none⟩, 0, Nat.zero_le _, Nat.le_refl _, rfl, rfl, by simp, made0 w _ 4 _ rfl _ (Nat.le_refl _), nx_alloc _ _⟩
  case round =>
    obtain ⟨k, m, vo, vc, hk, hm, rfl, rfl, HS⟩ := hrel
    have hd := HX.out.nx hgplt HS.out.2.2
    rw [HN.out] at hd
    obtain ⟨g0, g1, g2, g3, g4, gz⟩ := blk5d hd
    by_cases hlt : k < n2
    · obtain ⟨⟨x0, x1, x2, x3⟩, hp⟩ : ∃ p, S.srv[k]? = some p := ⟨_, List.getElem?_eq_getElem (by rw [HN.out]; exact hlt)⟩
      obtain ⟨bl, off, hao, hbl, c0, c1, c2, c3⟩ := sv_at (HRW.out.nx HS.out.2.2) hp
      subst hao
      simp only at c0 c1 c2 c3
      have hlti : (k : Int) < (n2 : Int) := by omega
      have HNX : Hid ((S.srv.take (k + 1)).filter (keepF pool far) = (S.srv.take k).filter (keepF pool far) ++ if keepF pool far ⟨x0, x1, x2, x3⟩ = true then [(⟨x0, x1, x2, x3⟩ : Srv)] else []) := by
        obtain ⟨hk', e⟩ := List.getElem?_eq_some_iff.1 hp
        show _ = _
        rw [List.take_succ_eq_append_getElem hk', List.filter_append, e]
        congr 1
        cases hkk : keepF pool far ⟨x0, x1, x2, x3⟩ <;> simp [hkk]
      obtain ⟨W1, hW1⟩ : ∃ W1, W1 = wr.alloc (bSv x0 x1 x2 x3) := ⟨_, rfl⟩
      have hbW : Below wr.heap.size wr W1 := by rw [hW1]; exact nx_alloc _ _
      have KW : Hid (W1 = wr.alloc (bSv x0 x1 x2 x3) ∧ W1.heap[wr.heap.size]? = some (bSv x0 x1 x2 x3) ∧ Below wr.heap.size wr W1) := ⟨hW1, by rw [hW1]; exact heap_alloc_at _ _ rfl, hbW⟩
      clear hp hd hW1 hbW
      go_upto_region 5 with fail
      rw [← KW.out.1]
      clear g0 g1 g2 g3 g4 gz c0 c1 c2 c3
      obtain ⟨b0, b1, b2, b3, bz⟩ := blk4d KW.out.2.1
      go_cut [35] (fun v wx => v = .bool (keepF pool far ⟨x0, x1, x2, x3⟩) ∧ ∃ wy, Hid (Below W1.heap.size W1 wy) ∧ wy = wx)
      case first =>
        cases hz : (x3 != 0) with
        | true =>
          have HK : Hid (keepF pool far ⟨x0, x1, x2, x3⟩ = true) := by
            show _ = _
            unfold keepF
            simp only [hz, Bool.true_or]
          go_wp2_with fail
          go_meet
          exact ⟨by rw [HK.out], _, Below.refl _ _, rfl⟩
        | false =>
          have HK : Hid (keepF pool far ⟨x0, x1, x2, x3⟩ = !othF pool far ⟨x0, x1, x2, x3⟩) := by
            show _ = _
            unfold keepF
            simp only [hz, Bool.false_or]
          go_wp2_with fail
          refine (cHasOther x0 x1 x2 x3 pool far W1).mono ?_
          rintro e w2 ⟨rfl, hb2⟩
          have HB2 := hideIt hb2
          clear hb2
          go_wp2_with fail
          go_meet
          exact ⟨by rw [HK.out], _, HB2.out, rfl⟩
      case rest =>
        obtain ⟨rfl, wy, HB2, rfl⟩ := hcut
        have HBY : Hid (Below w.heap.size w wy) := nx_trans (nx_trans HS.out.2.2 KW.out.2.2) HB2.out
        have hby : wy.heap[wr.heap.size]? = some (bSv x0 x1 x2 x3) := (HB2.out.block _ (Array.getElem?_eq_some_iff.1 KW.out.2.1).1).trans KW.out.2.1
        have HOY := hideIt (own_below (own_below HS.out.2.1 KW.out.2.2) HB2.out)
        clear b0 b1 b2 b3 bz
        obtain ⟨b0, b1, b2, b3, bz⟩ := blk4d hby
        clear hby
        cases hkk : keepF pool far ⟨x0, x1, x2, x3⟩ with
        | false =>
          have HNN : Hid ((S.srv.take (k + 1)).filter (keepF pool far) = (S.srv.take k).filter (keepF pool far)) := by
            show _ = _
            rw [HNX.out, if_neg (by rw [hkk]; simp), List.append_nil]
          clear hkk
          go_wp2_with fail
          go_roundw
          case rel => exact ⟨k + 1, m, vo, vc, by omega, by omega, by go_num, rfl, by rw [HNN.out]; exact ⟨HS.out.1, HOY.out, HBY.out⟩⟩
          case measure => simp [intOf]; omega
        | true =>
          have HNN : Hid ((S.srv.take (k + 1)).filter (keepF pool far) = (S.srv.take k).filter (keepF pool far) ++ [⟨x0, x1, x2, x3⟩]) := by
            show _ = _
            rw [HNX.out, if_pos hkk]
          clear hkk
          go_wp2_with (at_builtin; refine appendG 55 29 4 40 _ info_V Tryz.underlying29 rfl (by decide) (by decide) rfl (.tmp 36) (.tmp 38) rfl w.heap.size _ m (flatV ((S.srv.take k).filter (keepF pool far))) rfl (HOY.out.alloc _) (some ⟨wy.heap.size, 0, none⟩) 1 1 [.int .i64 x0, .string x1, .int .i64 x2, .int .i64 x3] rfl rfl (row_new wy [.int .i64 x0, .string x1, .int .i64 x2, .int .i64 x3] _ 1 rfl) (by intro u hu; simp at hu; rcases hu with rfl | rfl | rfl | rfl <;> rfl) (fun h => by cases h) (by omega) (by simp; have := HBY.out.size; omega) ?next)
          case next =>
            intro v' w6 hown6 hb6
            obtain ⟨vo6, vc6, rfl, _⟩ := own_row hown6
            have K6 : Hid (((S.srv.take (k + 1)).filter (keepF pool far)).length = m + 1 ∧ w6.ownsRow w.heap.size 55 4 (.slice vo6 (m + 1) vc6) (m + 1) (flatV ((S.srv.take (k + 1)).filter (keepF pool far))) ∧ Below w.heap.size w w6) := by
              refine ⟨by rw [HNN.out]; simp [HS.out.1], ?_, (HBY.out.alloc HBY.out.size _).trans hb6⟩
              rw [HNN.out]
              unfold flatV
              rw [List.flatMap_append]
              exact hown6
            clear hown6 hb6 b0 b1 b2 b3 bz
            go_wp2_with fail
            go_roundw
            case rel => exact ⟨k + 1, m + 1, vo6, vc6, by omega, by omega, by go_num, rfl, K6.out⟩
            case measure => simp [intOf]; omega
    · have HE : Hid ((S.srv.filter (keepF pool far)).length = m ∧ wr.ownsRow w.heap.size 55 4 (.slice vo m vc) m (flatV (S.srv.filter (keepF pool far))) ∧ Below w.heap.size w wr) := by
        have ht : S.srv.take k = S.srv := List.take_of_length_le (by rw [HN.out]; omega)
        have := HS.out
        rw [ht] at this
        exact this
      clear hd
      go_wp2_with fail
      refine bodyPost_end (v := .tuple #[]) (by simp [results, Tryz.results106, go_sem]) rfl ?_
      have hbx := HX.out.nx hgplt HE.out.2.2
      refine ⟨⟨_, rfl⟩, moved_srv (B := w.heap.size) HX.out HH.out.gp HH.out.lt (S.srv.filter (keepF pool far)) vo vc X.op ?_ ?_ (fun g hg => .inr ?_) ?_⟩
      · rw [HE.out.1]; exact set_heap _ _ _ _ _ _ hbx
      · rw [HE.out.1]; exact ownG_heap HE.out.2.1 (fun j hj => Below.heap_setCell _ _ _ _ (by show j ≠ gp; have := (HE.out.2.1.lt j hj).1; omega))
      · rw [HE.out.1] at hg; exact (HE.out.2.1.lt g hg).1
      · exact (Chg.of_below HE.out.2.2).trans (Chg.set (F := fun y => y = gp ∨ (Value.slice so S.srv.length sc).ownBlock = some y) wr gp 2 _ (.inl rfl)) (fun y hy => .inl hy)
def othN (name : ByteArray) (x : Pl) : Bool := !(x.nm.toList == name.toList)
set_option maxRecDepth 20000 in
set_option maxHeartbeats 2000000 in
theorem cWithout (so : Option Addr) (n2 sc : Nat) (name : ByteArray) (ps : List Pl) (w : World) (hr : RowAt w (.slice so n2 sc) n2 (flatP ps)) (hn : ps.length = n2) (hq : n2 ≤ 1099511627776) :
    Calls Tryz.prog 119 #[.slice so n2 sc, .string name] w fun e w' => ∃ vo vc, e = .returned (.slice vo (ps.filter (othN name)).length vc) ∧ w'.ownsRow w.heap.size 75 4 (.slice vo (ps.filter (othN name)).length vc) (ps.filter (othN name)).length (flatP (ps.filter (othN name))) ∧ Below w.heap.size w w' := by
  have HR : Hid (RowAt w (.slice so n2 sc) n2 (flatP ps) ∧ ps.length = n2) := ⟨hr, hn⟩
  clear hr hn
  go_enter Tryz.func119, Tryz.ntmps119
  go_wp2_with fail
  go_loopw [5, 6] (fun l i wr => ∃ (k m : Nat) (vo : Option Addr) (vc : Nat), k ≤ n2 ∧ m ≤ k ∧ i = .int .i64 k ∧ l = .slice vo m vc ∧ Hid (((ps.take k).filter (othN name)).length = m ∧ wr.ownsRow w.heap.size 75 4 (.slice vo m vc) m (flatP ((ps.take k).filter (othN name))) ∧ Below w.heap.size w wr)) (fun _ i _ => n2 - (intOf i).toNat)
  case atStart => exact ⟨0, 0, some ⟨w.heap.size, 0, none⟩, 0, Nat.zero_le _, Nat.le_refl _, rfl, rfl, by simp, made0 w _ 4 _ rfl _ (Nat.le_refl _), nx_alloc _ _⟩
  case round =>
    obtain ⟨k, m, vo, vc, hk, hm, rfl, rfl, HS⟩ := hrel
    by_cases hlt : k < n2
    · obtain ⟨⟨x0, x1, x2, x3⟩, hp⟩ : ∃ p, ps[k]? = some p := ⟨_, List.getElem?_eq_getElem (by rw [HR.out.2]; exact hlt)⟩
      obtain ⟨bl, off, hao, hbl, c0, c1, c2, c3⟩ := pool_at (HR.out.1.nx HS.out.2.2) hp
      subst hao
      simp only at c0 c1 c2 c3
      have hlti : (k : Int) < (n2 : Int) := by omega
      have HNX : Hid ((ps.take (k + 1)).filter (othN name) = (ps.take k).filter (othN name) ++ if (othN name) ⟨x0, x1, x2, x3⟩ = true then [(⟨x0, x1, x2, x3⟩ : Pl)] else []) := by
        obtain ⟨hk', e⟩ := List.getElem?_eq_some_iff.1 hp
        show _ = _
        rw [List.take_succ_eq_append_getElem hk', List.filter_append, e]
        congr 1
        cases hkk : (othN name) ⟨x0, x1, x2, x3⟩ <;> simp [hkk]
      clear hp
      cases hcb : (x0.toList == name.toList) with
      | true =>
        have HN : Hid ((ps.take (k + 1)).filter (othN name) = (ps.take k).filter (othN name)) := by
          show _ = _
          have hq' : ¬ (othN name) ⟨x0, x1, x2, x3⟩ = true := fun h => by rw [show (othN name) ⟨x0, x1, x2, x3⟩ = !(x0.toList == name.toList) from rfl, hcb] at h; simp at h
          rw [HNX.out, if_neg hq']
          simp
        go_wp2_with fail
        go_roundw
        case rel => exact ⟨k + 1, m, vo, vc, by omega, by omega, by go_num, rfl, by rw [HN.out]; exact HS.out⟩
        case measure => simp [intOf]; omega
      | false =>
        have HN : Hid ((ps.take (k + 1)).filter (othN name) = (ps.take k).filter (othN name) ++ [⟨x0, x1, x2, x3⟩]) := by
          show _ = _
          have hq' : (othN name) ⟨x0, x1, x2, x3⟩ = true := by show (!(x0.toList == name.toList)) = true; rw [hcb]; rfl
          rw [HNX.out, if_pos hq']
        go_wp2_with (at_builtin; refine appendG 75 22 4 40 _ info_P Tryz.underlying22 rfl (by decide) (by decide) rfl (.tmp 21) (.tmp 26) rfl w.heap.size _ m (flatP ((ps.take k).filter (othN name))) rfl (HS.out.2.1.alloc _) (some ⟨wr.heap.size, 0, none⟩) 1 1 [.string x0, .int .i64 x1, .int .i64 x2, .int .i64 x3] rfl rfl (row_new wr [.string x0, .int .i64 x1, .int .i64 x2, .int .i64 x3] _ 1 rfl) (by intro u hu; simp at hu; rcases hu with rfl | rfl | rfl | rfl <;> rfl) (fun h => by cases h) (by omega) (by simp; have := HS.out.2.2.size; omega) ?next)
        case next =>
          intro v' w6 hown6 hb6
          obtain ⟨vo6, vc6, rfl, _⟩ := own_row hown6
          have K6 : Hid (((ps.take (k + 1)).filter (othN name)).length = m + 1 ∧ w6.ownsRow w.heap.size 75 4 (.slice vo6 (m + 1) vc6) (m + 1) (flatP ((ps.take (k + 1)).filter (othN name))) ∧ Below w.heap.size w w6) := by
            refine ⟨by rw [HN.out]; simp [HS.out.1], ?_, (HS.out.2.2.alloc HS.out.2.2.size _).trans hb6⟩
            rw [HN.out]
            rw [flatP_append]
            exact hown6
          clear hown6 hb6
          go_wp2_with fail
          go_roundw
          case rel => exact ⟨k + 1, m + 1, vo6, vc6, by omega, by omega, by go_num, rfl, K6.out⟩
          case measure => simp [intOf]; omega
    · have HE : Hid ((ps.filter (othN name)).length = m ∧ wr.ownsRow w.heap.size 75 4 (.slice vo m vc) m (flatP (ps.filter (othN name))) ∧ Below w.heap.size w wr) := by
        have ht : ps.take k = ps := List.take_of_length_le (by rw [HR.out.2]; omega)
        have := HS.out
        rw [ht] at this
        exact this
      go_wp2_with fail
      go_ret
      refine ⟨vo, vc, ?_, ?_, HE.out.2.2⟩
      · rw [HE.out.1]; rfl
      · rw [HE.out.1]; exact HE.out.2.1
def cThinP (pool : ByteArray) : Nat → Sta → Sta
  | 0, S => S
  | f + 1, S => match lastP (fun s => isPoolV pool s && isCliV 0 s) S.srv with | none => S | some s => cThinP pool f (cShut S s.id)
set_option maxRecDepth 20000 in
set_option maxHeartbeats 4000000 in
theorem dThinPool (gp : Nat) (pool : ByteArray) (N : Int) (S : Sta) (X : Aux) (F : Nat → Prop) (w : World) (h : DeskAt w gp S X F) (hid : ∀ x ∈ S.srv, x.id ≠ 0) (hq0 : S.srv.length ≤ 549755813888) (hN : 0 ≤ N ∧ N ≤ 1000000) :
    Calls Tryz.prog 103 #[.pointer (some ⟨gp, 0, none⟩), .string pool, .int .i64 N] w fun e w' => (∃ x, e = .returned x) ∧ Moved w w' gp (cThinP pool ((cntG (isPoolV pool) S.srv : Int) - N).toNat S) X F := by
  obtain ⟨po, pc, so, sc, wo, wc, yo, yc, ho, hc, hx⟩ := h.ex
  obtain ⟨g0, g1, g2, g3, g4, gz⟩ := blk5d hx.box
  have HH := hideIt h
  have HID := hideIt hid
  have HCN := hideIt (cCountOf so _ sc pool S.srv w (own_row hx.s.own) rfl (by omega))
  obtain ⟨q, hqe⟩ : ∃ q : Nat, cntG (isPoolV pool) S.srv = q := ⟨_, rfl⟩
  have hql : q ≤ 549755813888 := by
    rw [← hqe]
    exact Nat.le_trans (List.length_filter_le _ _) hq0
  have HQ : Hid (cntG (isPoolV pool) S.srv = q ∧ S.srv.length ≤ 549755813888) := ⟨hqe, hq0⟩
  rw [hqe] at HCN ⊢
  obtain ⟨V, hV⟩ : ∃ V : Int, (q : Int) - N = V := ⟨_, rfl⟩
  have hVb : -1000000 ≤ V ∧ V ≤ 549755813888 := by omega
  have HV := hideIt hV
  clear h hx hid hqe hq0
  go_enter Tryz.func103, Tryz.ntmps103
  go_wp2_with fail
  refine HCN.out.mono ?_
  rintro e w1 ⟨rfl, hb1⟩
  have HB1 := hideIt hb1
  clear hb1
  go_wp2_with fail
  clear g0 g1 g2 g3 g4 gz
  go_loopw [6, 7] (fun i p7 wr => ∃ (v : Int) (T : Sta), v ≤ 549755813888 ∧ -1000000 ≤ v ∧ i = .int .i64 v ∧ Hid (Moved w wr gp T X F ∧ (∀ x ∈ T.srv, x.id ≠ 0) ∧ T.srv.length ≤ 549755813888 ∧ cThinP pool v.toNat T = cThinP pool V.toNat S)) (fun i _ _ => (intOf i).toNat)
  case atStart => exact ⟨V, S, hVb.2, hVb.1, by rw [← HV.out], (Moved.refl HH.out).below HB1.out, HID.out, HQ.out.2, rfl⟩
  case round =>
    obtain ⟨v, T, hv, hv2, rfl, HS⟩ := hrel
    by_cases hlt : 0 < v
    · obtain ⟨F1, hd, hnx⟩ := HS.out.1.step
      obtain ⟨po', pc', so', sc', wo', wc', yo', yc', ho', hc', hx⟩ := hd.ex
      obtain ⟨g0, g1, g2, g3, g4, gz⟩ := blk5d hx.box
      have HLI := hideIt (cLastIdleOf so' _ sc' pool T.srv wr (own_row hx.s.own) rfl (by have := HS.out.2.2.1; omega))
      have HZ : Hid (((orS (lastP (fun s => isPoolV pool s && isCliV 0 s) T.srv)).id == 0) = (lastP (fun s => isPoolV pool s && isCliV 0 s) T.srv).isNone) := by
        show _ = _
        cases hl : lastP (fun s => isPoolV pool s && isCliV 0 s) T.srv with
        | none => rfl
        | some s =>
          have : s ∈ T.srv := (List.mem_filter.1 (List.mem_of_getLast? hl)).1
          have := HS.out.2.1 s this
          simpa [orS] using this
      obtain ⟨⟨x0, x1, x2, x3⟩, hx0⟩ : ∃ x, orS (lastP (fun s => isPoolV pool s && isCliV 0 s) T.srv) = x := ⟨_, rfl⟩
      rw [hx0] at HLI HZ
      simp only at HZ
      have HX0 := hideIt hx0
      have HD := hideIt hd
      have HNX := hideIt hnx
      clear hd hnx hx hx0
      go_wp2_with fail
      refine HLI.out.mono ?_
      rintro e w2 ⟨rfl, hb2⟩
      obtain ⟨W2, hW2⟩ : ∃ W2, W2 = w2.alloc (bSv x0 x1 x2 x3) := ⟨_, rfl⟩
      have hbW : Below wr.heap.size wr W2 := by rw [hW2]; exact nx_trans hb2 (nx_alloc _ _)
      have KW : Hid (W2 = w2.alloc (bSv x0 x1 x2 x3) ∧ W2.heap[w2.heap.size]? = some (bSv x0 x1 x2 x3) ∧ Below wr.heap.size wr W2) := ⟨hW2, by rw [hW2]; exact heap_alloc_at _ _ rfl, hbW⟩
      have HD2 : Hid (DeskAt W2 gp T X F1) := HD.out.keep (G := fun _ => False) (Chg.of_below hbW) (fun _ _ h => h)
      clear hb2 hW2 hbW g0 g1 g2 g3 g4 gz
      go_upto_region 4 with fail
      rw [← KW.out.1]
      obtain ⟨b0, b1, b2, b3, bz⟩ := blk4d KW.out.2.1
      have HE : Hid (∃ r : Nat, v.toNat = r + 1 ∧ (v - 1).toNat = r) := ⟨v.toNat - 1, by omega, by omega⟩
      cases hz : (x0 == 0) with
      | true =>
        have KF : Hid (Moved w W2 gp (cThinP pool V.toNat S) X F) := by
          have hl : lastP (fun s => isPoolV pool s && isCliV 0 s) T.srv = none := by
            cases hl : lastP (fun s => isPoolV pool s && isCliV 0 s) T.srv with
            | none => rfl
            | some s => have := HZ.out; rw [hz, hl] at this; simp at this
          obtain ⟨r, hr, _⟩ := HE.out
          have := HS.out.2.2.2
          rw [hr, cThinP, hl] at this
          rw [← this]
          exact HS.out.1.below KW.out.2.2
        go_wp2_with fail
        refine bodyPost_ret (v := .tuple #[]) (by simp [results, Tryz.results103, go_sem]) rfl ?_
        exact ⟨⟨_, rfl⟩, by first | exact KF.out | (rw [HV.out]; exact KF.out)⟩
      | false =>
        have HSH := hideIt (dShut gp x0 T X F1 W2 HD2.out (by have := HS.out.2.2.1; omega))
        have HT2 : Hid ((∀ x ∈ (cShut T x0).srv, x.id ≠ 0) ∧ (cShut T x0).srv.length ≤ 549755813888 ∧ cThinP pool (v - 1).toNat (cShut T x0) = cThinP pool V.toNat S) := by
          refine ⟨fun x hx => HS.out.2.1 x (List.mem_filter.1 hx).1, Nat.le_trans (List.length_filter_le _ _) HS.out.2.2.1, ?_⟩
          obtain ⟨r, hr, hr2⟩ := HE.out
          have := HS.out.2.2.2
          rw [hr, cThinP] at this
          rw [hr2, ← this]
          cases hl : lastP (fun s => isPoolV pool s && isCliV 0 s) T.srv with
          | none => have := HZ.out; rw [hz, hl] at this; simp at this
          | some s =>
            have h2 := HX0.out
            rw [hl] at h2
            simp only
            rw [show s.id = x0 by rw [show s = ⟨x0, x1, x2, x3⟩ from h2]]
        go_wp2_with fail
        refine HSH.out.mono ?_
        rintro e w3 ⟨⟨x, rfl⟩, hm⟩
        have KF := hideIt (HNX.out _ _ _ (Moved.after KW.out.2.2 hm))
        clear hm b0 b1 b2 b3 bz
        go_wp2_with fail
        go_roundw
        case rel => exact ⟨v - 1, cShut T x0, by omega, by omega, by go_num, KF.out, HT2.out⟩
        case measure => simp [intOf]; omega
    · have KF : Hid (Moved w wr gp (cThinP pool V.toNat S) X F) := by
        have := HS.out.2.2.2
        rw [show v.toNat = 0 by omega, cThinP] at this
        rw [← this]
        exact HS.out.1
      go_wp2_with fail
      refine bodyPost_end (v := .tuple #[]) (by simp [results, Tryz.results103, go_sem]) rfl ?_
      exact ⟨⟨_, rfl⟩, by first | exact KF.out | (rw [HV.out]; exact KF.out)⟩
def cThinA : Nat → Sta → Sta
  | 0, S => S
  | f + 1, S => match lastP (isCliV 0) S.srv with | none => S | some s => cThinA f (cShut S s.id)
set_option maxRecDepth 20000 in
set_option maxHeartbeats 4000000 in
theorem dThinAll (gp : Nat) (N : Int) (S : Sta) (X : Aux) (F : Nat → Prop) (w : World) (h : DeskAt w gp S X F) (hid : ∀ x ∈ S.srv, x.id ≠ 0) (hq0 : S.srv.length ≤ 549755813888) (hN : 0 ≤ N ∧ N ≤ 1000000) :
    Calls Tryz.prog 105 #[.pointer (some ⟨gp, 0, none⟩), .int .i64 N] w fun e w' => (∃ x, e = .returned x) ∧ Moved w w' gp (cThinA ((S.srv.length : Int) - N).toNat S) X F := by
  obtain ⟨po, pc, so, sc, wo, wc, yo, yc, ho, hc, hx⟩ := h.ex
  obtain ⟨g0, g1, g2, g3, g4, gz⟩ := blk5d hx.box
  have HH := hideIt h
  have HID := hideIt hid
  obtain ⟨q, hqe⟩ : ∃ q : Nat, S.srv.length = q := ⟨_, rfl⟩
  have hql : q ≤ 549755813888 := by
    rw [← hqe]
    exact hq0
  have HQ : Hid (S.srv.length = q ∧ S.srv.length ≤ 549755813888) := ⟨hqe, hq0⟩
  rw [hqe] at g2 ⊢
  obtain ⟨V, hV⟩ : ∃ V : Int, (q : Int) - N = V := ⟨_, rfl⟩
  have hVb : -1000000 ≤ V ∧ V ≤ 549755813888 := by omega
  have HV := hideIt hV
  clear h hx hid hqe hq0
  go_enter Tryz.func105, Tryz.ntmps105
  go_wp2_with fail
  clear g0 g1 g2 g3 g4 gz
  go_loopw [4, 5] (fun i p7 wr => ∃ (v : Int) (T : Sta), v ≤ 549755813888 ∧ -1000000 ≤ v ∧ i = .int .i64 v ∧ Hid (Moved w wr gp T X F ∧ (∀ x ∈ T.srv, x.id ≠ 0) ∧ T.srv.length ≤ 549755813888 ∧ cThinA v.toNat T = cThinA V.toNat S)) (fun i _ _ => (intOf i).toNat)
  case atStart => exact ⟨V, S, hVb.2, hVb.1, by rw [← HV.out], Moved.refl HH.out, HID.out, HQ.out.2, rfl⟩
  case round =>
    obtain ⟨v, T, hv, hv2, rfl, HS⟩ := hrel
    by_cases hlt : 0 < v
    · obtain ⟨F1, hd, hnx⟩ := HS.out.1.step
      obtain ⟨po', pc', so', sc', wo', wc', yo', yc', ho', hc', hx⟩ := hd.ex
      obtain ⟨g0, g1, g2, g3, g4, gz⟩ := blk5d hx.box
      have HLI := hideIt (cLastIdle so' _ sc' T.srv wr (own_row hx.s.own) rfl (by have := HS.out.2.2.1; unfold maxLen; omega))
      have HZ : Hid (((orS (lastP (isCliV 0) T.srv)).id == 0) = (lastP (isCliV 0) T.srv).isNone) := by
        show _ = _
        cases hl : lastP (isCliV 0) T.srv with
        | none => rfl
        | some s =>
          have : s ∈ T.srv := (List.mem_filter.1 (List.mem_of_getLast? hl)).1
          have := HS.out.2.1 s this
          simpa [orS] using this
      obtain ⟨⟨x0, x1, x2, x3⟩, hx0⟩ : ∃ x, orS (lastP (isCliV 0) T.srv) = x := ⟨_, rfl⟩
      rw [hx0] at HLI HZ
      simp only at HZ
      have HX0 := hideIt hx0
      have HD := hideIt hd
      have HNX := hideIt hnx
      clear hd hnx hx hx0
      go_wp2_with fail
      refine HLI.out.mono ?_
      rintro e w2 ⟨rfl, hb2⟩
      obtain ⟨W2, hW2⟩ : ∃ W2, W2 = w2.alloc (bSv x0 x1 x2 x3) := ⟨_, rfl⟩
      have hbW : Below wr.heap.size wr W2 := by rw [hW2]; exact nx_trans hb2 (nx_alloc _ _)
      have KW : Hid (W2 = w2.alloc (bSv x0 x1 x2 x3) ∧ W2.heap[w2.heap.size]? = some (bSv x0 x1 x2 x3) ∧ Below wr.heap.size wr W2) := ⟨hW2, by rw [hW2]; exact heap_alloc_at _ _ rfl, hbW⟩
      have HD2 : Hid (DeskAt W2 gp T X F1) := HD.out.keep (G := fun _ => False) (Chg.of_below hbW) (fun _ _ h => h)
      clear hb2 hW2 hbW g0 g1 g2 g3 g4 gz
      go_upto_region 4 with fail
      rw [← KW.out.1]
      obtain ⟨b0, b1, b2, b3, bz⟩ := blk4d KW.out.2.1
      have HE : Hid (∃ r : Nat, v.toNat = r + 1 ∧ (v - 1).toNat = r) := ⟨v.toNat - 1, by omega, by omega⟩
      cases hz : (x0 == 0) with
      | true =>
        have KF : Hid (Moved w W2 gp (cThinA V.toNat S) X F) := by
          have hl : lastP (isCliV 0) T.srv = none := by
            cases hl : lastP (isCliV 0) T.srv with
            | none => rfl
            | some s => have := HZ.out; rw [hz, hl] at this; simp at this
          obtain ⟨r, hr, _⟩ := HE.out
          have := HS.out.2.2.2
          rw [hr, cThinA, hl] at this
          rw [← this]
          exact HS.out.1.below KW.out.2.2
        go_wp2_with fail
        refine bodyPost_ret (v := .tuple #[]) (by simp [results, Tryz.results105, go_sem]) rfl ?_
        exact ⟨⟨_, rfl⟩, by first | exact KF.out | (rw [HV.out]; exact KF.out)⟩
      | false =>
        have HSH := hideIt (dShut gp x0 T X F1 W2 HD2.out (by have := HS.out.2.2.1; omega))
        have HT2 : Hid ((∀ x ∈ (cShut T x0).srv, x.id ≠ 0) ∧ (cShut T x0).srv.length ≤ 549755813888 ∧ cThinA (v - 1).toNat (cShut T x0) = cThinA V.toNat S) := by
          refine ⟨fun x hx => HS.out.2.1 x (List.mem_filter.1 hx).1, Nat.le_trans (List.length_filter_le _ _) HS.out.2.2.1, ?_⟩
          obtain ⟨r, hr, hr2⟩ := HE.out
          have := HS.out.2.2.2
          rw [hr, cThinA] at this
          rw [hr2, ← this]
          cases hl : lastP (isCliV 0) T.srv with
          | none => have := HZ.out; rw [hz, hl] at this; simp at this
          | some s =>
            have h2 := HX0.out
            rw [hl] at h2
            simp only
            rw [show s.id = x0 by rw [show s = ⟨x0, x1, x2, x3⟩ from h2]]
        go_wp2_with fail
        refine HSH.out.mono ?_
        rintro e w3 ⟨⟨x, rfl⟩, hm⟩
        have KF := hideIt (HNX.out _ _ _ (Moved.after KW.out.2.2 hm))
        clear hm b0 b1 b2 b3 bz
        go_wp2_with fail
        go_roundw
        case rel => exact ⟨v - 1, cShut T x0, by omega, by omega, by go_num, KF.out, HT2.out⟩
        case measure => simp [intOf]; omega
    · have KF : Hid (Moved w wr gp (cThinA V.toNat S) X F) := by
        have := HS.out.2.2.2
        rw [show v.toNat = 0 by omega, cThinA] at this
        rw [← this]
        exact HS.out.1
      go_wp2_with fail
      refine bodyPost_end (v := .tuple #[]) (by simp [results, Tryz.results105, go_sem]) rfl ?_
      exact ⟨⟨_, rfl⟩, by first | exact KF.out | (rw [HV.out]; exact KF.out)⟩
end Lw
end Go.Proofs.YtohbonfngeblkaaGreat
