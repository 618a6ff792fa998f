
import Derived.Test.YtphkgbbfkibfbaaApA
import Derived.Deep.DeepCutAuto
import Derived.Deep.RegionHeld3
import Derived.Deep.QuietTactic
import Derived.BigQuiet
namespace Go.Proofs.Ytphkgbbfkibfbaa
open Go.RowKit
namespace Df
open Co Lw

theorem row_drew {w : World} {v : Value} {n : Nat} {cs : List Value} (h : RowAt w v n cs) (k : Nat) : RowAt (w.drewN k) v n cs := h.nx (below_drewN (Below.refl _ _) k)
/-- the table that goes from step to step, in the box gt -/
structure Tt (gt : Nat) (t : Int × List Pl) (vo : Option Addr) (n vc : Nat) (u : World) : Prop where
  box : u.heap[gt]? = some (bTab t.1 (.slice vo n vc))
  row : RowAt u (.slice vo n vc) n (flatP t.2)
  len : t.2.length = n
  nil : vo = none → vc = 0
  far : ∀ g off, vo = some ⟨g, off, none⟩ → g ≠ gt
theorem Tt.nx {gt : Nat} {t : Int × List Pl} {vo : Option Addr} {n vc : Nat} {u v : World} (h : Tt gt t vo n vc u) (hb : Below u.heap.size u v) : Tt gt t vo n vc v := ⟨blk_nx h.box hb, h.row.nx hb, h.len, h.nil, h.far⟩
/-- what lies behind step, in a new box -/
structure Nw (w0 : World) (g : Nat) (t : Int × List Pl) (vo : Option Addr) (vc : Nat) (u : World) : Prop where
  box : u.heap[g]? = some (bTab t.1 (.slice vo t.2.length vc))
  row : RowAt u (.slice vo t.2.length vc) t.2.length (flatP t.2)
  nil : vo = none → vc = 0
  far : ∀ g' off, vo = some ⟨g', off, none⟩ → w0.heap.size ≤ g'
  new : w0.heap.size ≤ g
  bel : Below w0.heap.size w0 u
theorem Nw.put {w0 : World} {g gt : Nat} {t : Int × List Pl} {vo : Option Addr} {vc : Nat} {u : World} {t0 : Int × List Pl} {vo0 : Option Addr} {n0 vc0 : Nat} (h : Nw w0 g t vo vc u) (hg : gt < w0.heap.size) (hbx : u.heap[gt]? = some (bTab t0.1 (.slice vo0 n0 vc0))) :
    Tt gt t vo t.2.length vc ((u.setCell ⟨gt, 0, none⟩ (.int .i64 t.1)).setCell ⟨gt, 1, none⟩ (.slice vo t.2.length vc)) := by
  have hf : ∀ g' off, vo = some ⟨g', off, none⟩ → g' ≠ gt := fun g' off e => by have := h.far g' off e; omega
  exact ⟨set_heap _ _ _ _ _ _ (set_heap _ _ _ _ _ _ hbx), row_set (row_set h.row hf) hf, rfl, h.nil, hf⟩

theorem nw_a {wy w8 : World} {t' : Int × List Pl} {tv' : Option Addr} {tc' : Nat} (hrow : RowAt w8 (.slice tv' t'.2.length tc') t'.2.length (flatP t'.2)) (hnil : tv' = none → tc' = 0) (hfar : ∀ g off, tv' = some ⟨g, off, none⟩ → wy.heap.size ≤ g) (hb : Below wy.heap.size wy w8) :
    Nw wy w8.heap.size t' tv' tc' (w8.alloc (bTab t'.1 (.slice tv' t'.2.length tc'))) :=
  ⟨heap_alloc_at _ _ rfl, hrow.nx (nx_alloc _ _), hnil, hfar, hb.size, nx_trans hb (nx_alloc _ _)⟩
theorem nw_b {wy w8 : World} {t' : Int × List Pl} {tv' : Option Addr} {tc' : Nat} (hrow : RowAt w8 (.slice tv' t'.2.length tc') t'.2.length (flatP t'.2)) (hnil : tv' = none → tc' = 0) (hfar : ∀ g off, tv' = some ⟨g, off, none⟩ → wy.heap.size + 1 ≤ g) (hbx : w8.heap[wy.heap.size]? = some (bTab 0 (.slice none 0 0))) (hb : Below wy.heap.size wy w8) :
    Nw wy wy.heap.size t' tv' tc' ((w8.setCell ⟨wy.heap.size, 0, none⟩ (.int .i64 t'.1)).setCell ⟨wy.heap.size, 1, none⟩ (.slice tv' t'.2.length tc')) := by
  have hf : ∀ g off, tv' = some ⟨g, off, none⟩ → g ≠ wy.heap.size := fun g off e => by have := hfar g off e; omega
  exact ⟨set_heap _ _ _ _ _ _ (set_heap _ _ _ _ _ _ hbx), row_set (row_set hrow hf) hf, hnil, fun g off e => by have := hfar g off e; omega, Nat.le_refl _, (hb.setCell (Nat.le_refl _) _).setCell (Nat.le_refl _) _⟩

set_option maxRecDepth 20000 in
set_option maxHeartbeats 8000000 in
theorem applied_any (xa : Int) (ao : Option Addr) (n ac : Nat) (xs : List Pl) (xb : Int) (bo : Option Addr) (m bc : Nat) (ys : List Pl) (w : World)
    (hr : RowAt w (.slice ao n ac) n (flatP xs)) (hn : xs.length = n) (hn1 : n ≤ maxLen) (hia : I64 xa) (hix : ∀ x ∈ xs, I64 x.sz ∧ I64 x.wt ∧ I64 x.fr)
    (hr2 : RowAt w (.slice bo m bc) m (flatP ys)) (hm : ys.length = m) (hm1 : m ≤ maxLen) (hib : I64 xb) (hiy : ∀ x ∈ ys, I64 x.sz ∧ I64 x.wt ∧ I64 x.fr) :
    Calls Try.prog 3 #[.agg #[.int .i64 xa, .slice ao n ac], .agg #[.int .i64 xb, .slice bo m bc]] w fun e w' => e = .returned (.bool true) ∧ Below w.heap.size w w' := by
  obtain ⟨W, hW⟩ : ∃ W, W = (w.alloc (bTab xa (.slice ao n ac))).alloc (bTab xb (.slice bo m bc)) := ⟨_, rfl⟩
  have hbW : Below w.heap.size w W := by rw [hW]; exact nx_trans (nx_alloc _ _) (nx_alloc _ _)
  have HW : Hid (W = (w.alloc (bTab xa (.slice ao n ac))).alloc (bTab xb (.slice bo m bc)) ∧ W.heap[w.heap.size]? = some (bTab xa (.slice ao n ac)) ∧ W.heap[w.heap.size + 1]? = some (bTab xb (.slice bo m bc)) ∧ Below w.heap.size w W) := by
    refine ⟨hW, ?_, ?_, hbW⟩
    · rw [hW]; exact (heap_alloc_lt _ _ (by simp)).trans (heap_alloc_at _ _ rfl)
    · rw [hW]; exact heap_alloc_at _ _ (by simp)
  have HB1 := hideIt (Bent_any xa xs ao ac n W (hr.nx hbW) hn hn1 hia hix)
  have HB2 := hideIt (fun u (hb : Below w.heap.size w u) => Bent_any xb ys bo bc m u (hr2.nx hb) hm hm1 hib hiy)
  clear hr hn hn1 hia hix hr2 hm hm1 hib hiy hW hbW
  go_enter Try.func3, Try.ntmps3
  go_wp2_with fail
  rw [← HW.out.1]
  refine HB1.out.mono ?_
  rintro e w1 ⟨ra, pa, va, ca, oka, rfl, ho1, hb1⟩
  obtain ⟨na, hna⟩ : ∃ na, pa.length = na := ⟨_, rfl⟩
  rw [hna] at ho1 ⊢
  obtain ⟨W2, hW2⟩ : ∃ W2, W2 = w1.alloc (bTab ra (.slice va na ca)) := ⟨_, rfl⟩
  have hb2 : Below W.heap.size W W2 := by rw [hW2]; exact nx_trans hb1 (nx_alloc _ _)
  have H2 : Hid (W2 = w1.alloc (bTab ra (.slice va na ca)) ∧ Below W.heap.size W W2 ∧ W2.ownsRow W.heap.size 37 4 (.slice va na ca) na (flatP pa) ∧ W2.heap[w1.heap.size]? = some (bTab ra (.slice va na ca)) ∧ Okt ra pa ∧ pa.length = na) := by
    refine ⟨hW2, hb2, ?_, ?_, oka, hna⟩
    · rw [hW2]; exact own_below ho1 (nx_alloc _ _)
    · rw [hW2]; exact heap_alloc_at _ _ rfl
  have pp0 : ∀ o, (w1.alloc o).cell? ⟨w.heap.size + 1, 0, none⟩ = some (.int .i64 xb) := fun o => (blk2 (blk_nx (blk_nx HW.out.2.2.1 hb1) (nx_alloc _ o))).1
  have pp1 : ∀ o, (w1.alloc o).cell? ⟨w.heap.size + 1, 1, none⟩ = some (.slice bo m bc) := fun o => (blk2 (blk_nx (blk_nx HW.out.2.2.1 hb1) (nx_alloc _ o))).2.1
  clear ho1 hb1 hW2 hb2 oka hna HB1
  go_wp2_with fail
  rw [← H2.out.1]
  refine (HB2.out W2 (nx_trans HW.out.2.2.2 H2.out.2.1)).mono ?_
  rintro e w3 ⟨rb, pb, vb, cb, okb, rfl, ho3, hb3⟩
  obtain ⟨nb, hnb⟩ : ∃ nb, pb.length = nb := ⟨_, rfl⟩
  rw [hnb] at ho3 ⊢
  obtain ⟨W4, hW4⟩ : ∃ W4, W4 = w3.alloc (bTab rb (.slice vb nb cb)) := ⟨_, rfl⟩
  have hb4 : Below W2.heap.size W2 W4 := by rw [hW4]; exact nx_trans hb3 (nx_alloc _ _)
  have H4 : Hid (W4 = w3.alloc (bTab rb (.slice vb nb cb)) ∧ Below w.heap.size w W4 ∧ RowAt W4 (.slice va na ca) na (flatP pa) ∧ RowAt W4 (.slice vb nb cb) nb (flatP pb) ∧ W4.heap[w1.heap.size]? = some (bTab ra (.slice va na ca)) ∧ W4.heap[w3.heap.size]? = some (bTab rb (.slice vb nb cb)) ∧ Okt rb pb ∧ pb.length = nb ∧ (va = none → ca = 0) ∧ (∀ g off, va = some ⟨g, off, none⟩ → g < W4.heap.size)) := by
    refine ⟨hW4, nx_trans HW.out.2.2.2 (nx_trans H2.out.2.1 hb4), (own_row H2.out.2.2.1).nx hb4, ?_, blk_nx H2.out.2.2.2.1 hb4, ?_, okb, hnb, own_nilc H2.out.2.2.1, fun g off e => ?_⟩
    · rw [hW4]; exact own_row (own_below ho3 (nx_alloc _ _))
    · rw [hW4]; exact heap_alloc_at _ _ rfl
    · exact Nat.lt_of_lt_of_le (H2.out.2.2.1.lt g (by rw [e]; rfl)).2 hb4.size
  have s0 : ∀ o, (w3.alloc o).cell? ⟨w1.heap.size, 0, none⟩ = some (.int .i64 ra) := fun o => (blk2 (blk_nx (blk_nx H2.out.2.2.2.1 hb3) (nx_alloc _ o))).1
  have s1 : ∀ o, (w3.alloc o).cell? ⟨w1.heap.size, 1, none⟩ = some (.slice va na ca) := fun o => (blk2 (blk_nx (blk_nx H2.out.2.2.2.1 hb3) (nx_alloc _ o))).2.1
  clear ho3 hb3 hW4 hb4 pp0 pp1 okb hnb HB2
  have hla : na ≤ 6 := by rw [← H2.out.2.2.2.2.2]; exact H2.out.2.2.2.2.1.len
  have hlb : nb ≤ 6 := by rw [← H4.out.2.2.2.2.2.2.2.1]; exact H4.out.2.2.2.2.2.2.1.len
  have HD := hideIt (pDiff true true ra va na ca pa rb vb nb cb pb W4 H4.out.2.2.1 H2.out.2.2.2.2.2 (fun _ => hla) H4.out.2.2.2.1 H4.out.2.2.2.2.2.2.2.1 (fun _ => hlb)
    (fun u hu => isTab H2.out.2.2.2.2.1 (H4.out.2.2.1.nx hu) H2.out.2.2.2.2.2) (fun u hu => isTab H4.out.2.2.2.2.2.2.1 (H4.out.2.2.2.1.nx hu) H4.out.2.2.2.2.2.2.2.1))
  have HE := hideIt (fun u (hb : Below W4.heap.size W4 u) => pDiff true true rb vb nb cb pb rb vb nb cb pb u (H4.out.2.2.2.1.nx hb) H4.out.2.2.2.2.2.2.2.1 (fun _ => hlb) (H4.out.2.2.2.1.nx hb) H4.out.2.2.2.2.2.2.2.1 (fun _ => hlb)
    (fun u' hu => isTab H4.out.2.2.2.2.2.2.1 ((H4.out.2.2.2.1.nx hb).nx hu) H4.out.2.2.2.2.2.2.2.1) (fun u' hu => isTab H4.out.2.2.2.2.2.2.1 ((H4.out.2.2.2.1.nx hb).nx hu) H4.out.2.2.2.2.2.2.2.1))
  have HRUN := hideIt (run_all H2.out.2.2.2.2.1 H4.out.2.2.2.2.2.2.1)
  have HORD := hideIt (diff_ord H2.out.2.2.2.2.1 H4.out.2.2.2.2.2.2.1 8)
  have HSELF := hideIt (diff_self H4.out.2.2.2.2.2.2.1)
  go_wp2_with fail
  rw [← H4.out.1]
  refine HD.out.mono ?_
  rintro e w5 ⟨vo, c1, rfl, ho5, hb5⟩
  obtain ⟨L, hL⟩ : ∃ L, diffL ra pa rb pb = L := ⟨_, rfl⟩
  have hg : gotL (true && true) ra pa rb pb = L := hL
  rw [hg] at ho5 ⊢
  rw [hL] at HRUN
  have HORD2 : Hid (L.Pairwise ordS) := by
    have h := HORD.out
    have e : diffTo 8 ra pa rb pb = L := hL
    rw [e] at h
    exact h
  obtain ⟨ln, hln⟩ : ∃ ln, L.length = ln := ⟨_, rfl⟩
  rw [hln] at ho5 ⊢
  have hge : gotE (true && true) = 0 := rfl
  rw [hge]
  have H5 : Hid (RowAt w5 (.slice vo ln c1) ln (flatT L) ∧ Below W4.heap.size W4 w5 ∧ L.length = ln ∧ ln ≤ maxLen) := ⟨own_row ho5, hb5, hln, kown_le ho5⟩
  obtain ⟨b0, b1, bz⟩ := blk2 (blk_nx H4.out.2.2.2.2.2.1 hb5)
  clear ho5 hb5 hL hln s0 s1 HD hg hge HORD
  go_wp2_with fail
  refine (HE.out w5 H5.out.2.1).mono ?_
  rintro e w6 ⟨vo6, c6, rfl, ho6, hb6⟩
  have hg6 : gotL (true && true) rb pb rb pb = [] := HSELF.out
  have hge : gotE (true && true) = 0 := rfl
  rw [hg6, hge]
  have H6 : Hid (Below W4.heap.size W4 w6 ∧ RowAt w6 (.slice vo ln c1) ln (flatT L)) := ⟨nx_trans H5.out.2.1 hb6, H5.out.1.nx hb6⟩
  have hl0 : ([] : List Stp).length = 0 := rfl
  rw [hl0]
  clear ho6 hb6 hg6 hge hl0 b0 b1 bz HE
  obtain ⟨a0, a1, az⟩ := blk2 (blk_nx H4.out.2.2.2.2.1 H6.out.1)
  have hlm : ln ≤ 9223372036854775807 := by have := H5.out.2.2.2; unfold maxLen at this; omega
  go_wp2_with fail
  go_loopw [12] (fun i wr => ∃ (k : Nat) (tv : Option Addr) (tn tc : Nat), k ≤ ln ∧ i = .int .i64 k ∧ Hid (Tt w6.heap.size ((L.take k).foldl stepT (ra, pa)) tv tn tc wr ∧ Below w6.heap.size w6 wr)) (fun i _ => ln - (intOf i).toNat)
  case atStart =>
    refine ⟨0, va, na, ca, Nat.zero_le _, rfl, ⟨heap_alloc_at _ _ rfl, (H4.out.2.2.1.nx H6.out.1).nx (nx_alloc _ _), H2.out.2.2.2.2.2, H4.out.2.2.2.2.2.2.2.2.1, fun g off e => ?_⟩, nx_alloc _ _⟩
    have h1 := H4.out.2.2.2.2.2.2.2.2.2 g off e
    have h2 := H6.out.1.size
    omega
  case round =>
    obtain ⟨k, tv, tn, tc, hk, rfl, HS⟩ := hrel
    have hgtw : w6.heap.size < wr.heap.size := (Array.getElem?_eq_some_iff.1 HS.out.1.box).1
    by_cases hlt : k < ln
    · obtain ⟨⟨kd, nm, N⟩, hp⟩ : ∃ s, L[k]? = some s := ⟨_, List.getElem?_eq_getElem (by rw [H5.out.2.2.1]; exact hlt)⟩
      have HG := hideIt (HRUN.out.1.at hp)
      obtain ⟨t, ht⟩ : ∃ t, (L.take k).foldl stepT (ra, pa) = t := ⟨_, rfl⟩
      have HNX : Hid ((L.take (k + 1)).foldl stepT (ra, pa) = stepT t ⟨kd, nm, N⟩) := by
        obtain ⟨hk', e⟩ := List.getElem?_eq_some_iff.1 hp
        show _ = _
        rw [List.take_succ_eq_append_getElem hk', e, List.foldl_append, ht]
        rfl
      rw [ht] at HS HG
      have HST := hideIt (fun (u : World) (hb : Below wr.heap.size wr u) => st_at ((H6.out.2.nx HS.out.2).nx hb) hp)
      obtain ⟨bl, off, hao, hbl, c0, c1', c2⟩ := HST.out wr (Below.refl _ _)
      subst hao
      simp only at c0 c1' c2
      have hlti : (k : Int) < (ln : Int) := by omega
      have h0i : (0 : Int) ≤ (k : Int) := by omega
      have HPK := hideIt hp
      clear ht hp
      go_upto_region 11 with fail
      go_cut [92] (fun x wx => x = .bool false ∧ ∃ wy, Hid (Below wr.heap.size wr wy) ∧ wy = wx)
      case first =>
        by_cases hk0 : k = 0
        · subst hk0
          go_quiet (fail)
          go_wp2_with fail
          go_meet
          exact ⟨rfl, _, below_drewN (Below.refl _ _) _, rfl⟩
        · obtain ⟨k', hk'⟩ : ∃ k', k = k' + 1 := ⟨k - 1, by omega⟩
          have hw : IntKind.i64.wrap ((k : Int) - 1) = (k' : Int) := by rw [IntWalk.i64_in _ (by omega)]; omega
          have hpos : (0 : Int) < (k : Int) := by omega
          have hposN : 0 < k := by omega
          have hk1 : (0 : Int) ≤ (k' : Int) := by omega
          have hk2 : (k' : Int) < (ln : Int) := by omega
          obtain ⟨⟨kd', nm', N'⟩, hq⟩ : ∃ s, L[k']? = some s := ⟨_, List.getElem?_eq_getElem (by rw [H5.out.2.2.1]; omega)⟩
          obtain ⟨bl', off', e', _, d0, d1, d2⟩ := st_at (H6.out.2.nx HS.out.2) hq
          obtain ⟨rfl, rfl⟩ : bl = bl' ∧ off = off' := by simpa using e'
          simp only at d0 d1 d2
          have hord : ordS ⟨kd', nm', N'⟩ ⟨kd, nm, N⟩ := by
            obtain ⟨i1, e1⟩ := List.getElem?_eq_some_iff.1 hq
            obtain ⟨i2, e2⟩ := List.getElem?_eq_some_iff.1 HPK.out
            have := List.pairwise_iff_getElem.1 HORD2.out k' k i1 i2 (by omega)
            rwa [e1, e2] at this
          clear hk' e' hq
          rcases hord with hlk | ⟨hek, hln'⟩
          · simp only at hlk
            have q1 : ¬ kd < kd' := by omega
            have q2 : (kd == kd') = false := by simp; omega
            go_quiet (fail)
            go_wp2_with fail
            go_meet
            exact ⟨rfl, _, below_drewN (Below.refl _ _) _, rfl⟩
          · simp only at hek hln'
            have q1 : ¬ kd < kd' := by omega
            have q2 : (kd == kd') = true := by simp [hek]
            have q3 : (Op.bytesLess nm.toList nm'.toList || nm.toList == nm'.toList) = false := by
              have := leq_lt nm nm'
              rw [this, hln']; rfl
            have q4 : Op.bytesLess nm.toList nm'.toList = false := by
              rw [Bool.or_eq_false_iff] at q3; exact q3.1
            have q5 : (nm.toList == nm'.toList) = false := by
              rw [Bool.or_eq_false_iff] at q3; exact q3.2
            clear hek hln'
            go_quiet (fail)
            go_wp2_with fail
            go_meet
            exact ⟨rfl, _, below_drewN (Below.refl _ _) _, rfl⟩
      case rest =>
        obtain ⟨rfl, wy, HY, rfl⟩ := hcut
        clear c0 c1' c2
        have hgty : w6.heap.size < wy.heap.size := Nat.lt_of_lt_of_le hgtw HY.out.size
        have HT := hideIt (HS.out.1.nx HY.out)
        obtain ⟨x0, x1, xz⟩ := blk2 HT.out.box
        obtain ⟨bl', off', e', hbly, c0, c1', c2⟩ := HST.out wy HY.out
        obtain ⟨rfl, rfl⟩ : bl = bl' ∧ off = off' := by simpa using e'
        clear e'
        have HKS := hideIt (fun (u : World) (hb : Below wy.heap.size wy u) => kStep t ⟨kd, nm, N⟩ tv tn tc u (HT.out.row.nx hb) HT.out.len HT.out.nil HG.out.1 HG.out.2.1 HG.out.2.2)
        obtain ⟨t', ht'⟩ : ∃ t', stepT t ⟨kd, nm, N⟩ = t' := ⟨_, rfl⟩
        rw [ht'] at HKS HNX
        clear ht'
        obtain ⟨tb, htb⟩ : ∃ tb, t.1 = tb := ⟨_, rfl⟩
        rw [htb] at x0 HKS
        have n1 := World.new_ne wy _ x0
        have n2 := World.new_ne wy _ x1
        have n3 := World.new_ne wy _ c0
        have n4 := World.new_ne wy _ c1'
        have n5 := World.new_ne wy _ c2
        have HTB := hideIt htb
        clear htb
        go_upto_region 13 with fail
        go_cut [13, 14] (fun p13 p14 wx => p14 = .bool true ∧ ∃ (g : Nat) (tv' : Option Addr) (tc' : Nat) (wz : World), p13 = .pointer (some ⟨g, 0, none⟩) ∧ Hid (Nw wy g t' tv' tc' wz) ∧ wz = wx)
        case first =>
          go_region_held3 (fun w' => w'.cell? ⟨w6.heap.size, 0, none⟩ = some (.int .i64 tb) ∧ w'.cell? ⟨w6.heap.size, 1, none⟩ = some (.slice tv tn tc) ∧ w'.cell? ⟨bl, off + k * 3, none⟩ = some (.int .i64 kd) ∧ w'.cell? ⟨bl, off + k * 3 + 1, none⟩ = some (.string nm) ∧ w'.cell? ⟨bl, off + k * 3 + 2, none⟩ = some (.int .i64 N)) (go_keep)
            ((go_at_call 6; refine (HKS.out _ (by first | exact (Below.refl _ _).drew | exact (Below.refl _ _).drew.alloc (Nat.le_refl _) _)).mono ?_; rintro e w8 ⟨tv', tc', rfl, hrow8, hnil8, hfar8, hb8⟩; have HB8 : Hid (Below wy.heap.size wy w8) := (by first | exact nx_trans (Below.refl _ _).drew hb8 | exact nx_trans ((Below.refl _ _).drew.alloc (Nat.le_refl _) _) hb8); have q1 := (HB8.out.cell (p := ⟨w6.heap.size, 0, none⟩) hgty).trans x0; have q2 := (HB8.out.cell (p := ⟨w6.heap.size, 1, none⟩) hgty).trans x1; have q3 := (HB8.out.cell (p := ⟨bl, off + k * 3, none⟩) hbly).trans c0; have q4 := (HB8.out.cell (p := ⟨bl, off + k * 3 + 1, none⟩) hbly).trans c1'; have q5 := (HB8.out.cell (p := ⟨bl, off + k * 3 + 2, none⟩) hbly).trans c2; have r1 := World.new_ne w8 _ q1; have r2 := World.new_ne w8 _ q2; have r3 := World.new_ne w8 _ q3; have r4 := World.new_ne w8 _ q4; have r5 := World.new_ne w8 _ q5; have H8 := hideIt (And.intro hrow8 (And.intro hnil8 hfar8)); clear hrow8 hnil8 hfar8; first | (have HBX : Hid (w8.heap[wy.heap.size]? = some (bTab 0 (.slice none 0 0))) := (hb8.block wy.heap.size (by simp)).trans (heap_alloc_at wy (bTab 0 (.slice none 0 0)) rfl); obtain ⟨k0, k1, kz⟩ := blk2 HBX.out) | skip; clear hb8))
          all_goals
            go_wp2_with fail
            go_meet
            first
            | exact ⟨rfl, _, tv', tc', _, rfl, nw_a H8.out.1 H8.out.2.1 H8.out.2.2 HB8.out, rfl⟩
            | exact ⟨rfl, _, tv', tc', _, rfl, nw_b H8.out.1 H8.out.2.1 (fun g off e => by have := H8.out.2.2 g off e; simpa using this) HBX.out HB8.out, rfl⟩
        case rest =>
          obtain ⟨rfl, g, tv', tc', wz, rfl, HN, rfl⟩ := hcut
          obtain ⟨m0, m1, mz⟩ := blk2 HN.out.box
          have hbt := blk_nx HT.out.box HN.out.bel
          obtain ⟨y0, y1, yz⟩ := blk2 hbt
          have HZ : Hid (Tt w6.heap.size t' tv' t'.2.length tc' ((wz.setCell ⟨w6.heap.size, 0, none⟩ (.int .i64 t'.1)).setCell ⟨w6.heap.size, 1, none⟩ (.slice tv' t'.2.length tc')) ∧ Below w6.heap.size w6 ((wz.setCell ⟨w6.heap.size, 0, none⟩ (.int .i64 t'.1)).setCell ⟨w6.heap.size, 1, none⟩ (.slice tv' t'.2.length tc'))) :=
            ⟨HN.out.put hgty hbt, ((nx_trans (nx_trans HS.out.2 HY.out) HN.out.bel).setCell (Nat.le_refl _) _).setCell (Nat.le_refl _) _⟩
          clear hbt x0 x1 xz c0 c1' c2 n1 n2 n3 n4 n5
          go_wp2_with fail
          go_roundw
          case rel => exact ⟨k + 1, tv', _, tc', by omega, by go_num, by rw [HNX.out]; exact HZ.out⟩
          case measure => simp [intOf]; omega
    · have hkl : k = ln := by omega
      have HT : Hid (Tt w6.heap.size (rb, pb) tv tn tc wr) := by
        have h := HS.out.1
        rw [hkl, List.take_of_length_le (by rw [H5.out.2.2.1]; exact Nat.le_refl _), HRUN.out.2] at h
        exact h
      have hbw : Below W4.heap.size W4 wr := nx_trans H6.out.1 HS.out.2
      obtain rfl : nb = tn := H4.out.2.2.2.2.2.2.2.1.symm.trans HT.out.len
      obtain ⟨x0, x1, xz⟩ := blk2 HT.out.box
      obtain ⟨y0, y1, yz⟩ := blk2 (blk_nx H4.out.2.2.2.2.2.1 hbw)
      have HSM := hideIt (ksame_true rb tv vb nb tc cb pb wr HT.out.row (H4.out.2.2.2.1.nx hbw) HT.out.len (by unfold maxLen; omega))
      have HBW := hideIt (nx_trans H4.out.2.1 hbw)
      simp only at x0 x1
      clear hbw hkl
      go_wp2_with fail
      refine HSM.out.mono ?_
      rintro e w9 ⟨rfl, hb9⟩
      have HB9 := hideIt (nx_trans HBW.out hb9)
      clear hb9
      go_wp2_with fail
      go_ret
      exact ⟨rfl, HB9.out⟩
end Df
end Go.Proofs.Ytphkgbbfkibfbaa
