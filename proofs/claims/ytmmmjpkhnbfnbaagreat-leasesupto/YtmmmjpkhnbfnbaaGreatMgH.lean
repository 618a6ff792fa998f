import Derived.Test.YtmmmjpkhnbfnbaaGreatMgG
import Derived.Test.YtmmmjpkhnbfnbaaGreatMgE
namespace Go.Proofs.YtmmmjpkhnbfnbaaGreat
open Go.RowKit
namespace Co

def tabStep (all : List (Ln × Value)) (st : Int × List Pl) (p : Ln × Value) : Int × List Pl :=
  if p.1.kind = 1 then (valOf 3 0 p.1.sets [], st.2) else if p.1.kind = 3 then (st.1, insP (poolC all p.1) st.2) else st
def tabTo (all : List (Ln × Value)) (k : Nat) : Int × List Pl := (all.take k).foldl (tabStep all) (0, [])
theorem tabTo_succ (all : List (Ln × Value)) (k : Nat) (p : Ln × Value) (h : all[k]? = some p) : tabTo all (k + 1) = tabStep all (tabTo all k) p := by
  unfold tabTo
  obtain ⟨hk, rfl⟩ := List.getElem?_eq_some_iff.1 h
  rw [List.take_succ_eq_append_getElem hk, List.foldl_append]
  rfl
abbrev bTab (b : Int) (v : Value) : Obj := .cells #[.int .i64 b, v] 31
theorem blk2 {w : World} {g : Nat} {c0 c1 : Value} {t : TypeId} (h : w.heap[g]? = some (.cells #[c0, c1] t (0, 0))) :
    w.cell? ⟨g, 0, none⟩ = some c0 ∧ w.cell? ⟨g, 1, none⟩ = some c1 ∧ ∀ a, w.frozen? ⟨g, a, none⟩ = false := by
  refine ⟨?_, ?_, fun a => ?_⟩ <;> simp [World.cell?, World.frozen?, h]

set_option maxRecDepth 20000 in
set_option maxHeartbeats 4000000 in
theorem tableOf_any (ao : Option Addr) (cap n : Nat) (ls : List (Ln × Value)) (w : World) (hl : LinesAt w (.slice ao n cap) ls) (hn : ls.length = n) (hn1 : n ≤ 1001) (hsl : ∀ p ∈ ls, p.1.sets.length ≤ 1001) :
    Calls Tryz.prog 57 #[.slice ao n cap] w fun e w' => ∃ vo vc, e = .returned (.agg #[.int .i64 (tabTo ls n).1, .slice vo (tabTo ls n).2.length vc]) ∧ w'.ownsRow w.heap.size 70 4 (.slice vo (tabTo ls n).2.length vc) (tabTo ls n).2.length (flatP (tabTo ls n).2) ∧ Below w.heap.size w w' := by
  have HL : Hid (LinesAt w (.slice ao n cap) ls ∧ ls.length = n ∧ ∀ p ∈ ls, p.1.sets.length ≤ 1001) := ⟨hl, hn, hsl⟩
  clear hl hn hsl
  have HST : Hid (((w.alloc (bTab 0 (.slice none 0 0))).alloc (bTab 0 (.slice none 0 0))).heap[w.heap.size]? = some (bTab 0 (.slice none 0 0)) ∧ ((w.alloc (bTab 0 (.slice none 0 0))).alloc (bTab 0 (.slice none 0 0))).heap[w.heap.size + 1]? = some (bTab 0 (.slice none 0 0))) :=
    ⟨(heap_alloc_lt' _ _ (by simp)).trans (heap_alloc_at' _ _ rfl), heap_alloc_at' _ _ (by simp)⟩
  go_enter Tryz.func57, Tryz.ntmps57
  go_wp2_with fail
  go_loopw [4] (fun i wr => ∃ (k m : Nat) (b : Int) (ps : List Pl) (vo : Option Addr) (vc : Nat), k ≤ n ∧ i = .int .i64 k ∧ m ≤ k ∧ Hid (tabTo ls k = (b, ps) ∧ ps.length = m) ∧ Hid (wr.heap[w.heap.size]? = some (bTab 0 (.slice none 0 0)) ∧ wr.heap[w.heap.size + 1]? = some (bTab b (.slice vo m vc))) ∧
      wr.ownsRow (w.heap.size + 2) 70 4 (.slice vo m vc) m (flatP ps) ∧ Below w.heap.size w wr ∧ w.heap.size + 2 ≤ wr.heap.size) (fun i _ => n - (intOf i).toNat)
  case atStart => exact ⟨0, 0, 0, [], none, 0, Nat.zero_le _, rfl, Nat.le_refl _, ⟨rfl, rfl⟩, HST.out, World.ownsRow_nil _ _ _ _, nx_trans (nx_alloc _ _) (nx_alloc _ _), by simp⟩
  case round =>
    obtain ⟨k, m, b, ps, vo, vc, hk, rfl, hm, HS, HH, hown, hbel, hz⟩ := hrel
    by_cases hlt : k < n
    · obtain ⟨⟨l, sv⟩, hp⟩ : ∃ p, ls[k]? = some p := ⟨_, List.getElem?_eq_getElem (by rw [HL.out.2.1]; exact hlt)⟩
      obtain ⟨bl, off, so, sc, hao, hbl, hsv, hrow, c0, c1, c2, c3, c4⟩ := (HL.out.1.nx hbel).at hp
      have hsl1 : l.sets.length ≤ 1001 := HL.out.2.2 _ (List.mem_of_getElem? hp)
      have HT := hideIt (tabTo_succ ls k (l, sv) hp)
      have hlti : (k : Int) < (n : Int) := by omega
      clear hp hsv
      by_cases hk1 : l.kind = 1
      · have HX : Hid (tabTo ls (k + 1) = (valOf 3 0 l.sets [], ps)) := by
          show _ = _
          rw [HT.out, HS.out.1, tabStep, if_pos hk1]
        have hkb : ((l.kind : Int) == 1) = true := by rw [int_eq1]; simp [hk1]
        have HV := hideIt (valueOf_3 l.place l.kind l.name l.frm so sc l.sets.length l.sets wr hrow rfl hsl1)
        obtain ⟨v3, hv3⟩ : ∃ v3, valOf 3 0 l.sets [] = v3 := ⟨_, rfl⟩
        rw [hv3] at HX HV
        subst hao
        clear hk1 HT hrow hv3
        go_wp2_with fail
        refine HV.out.mono ?_
        rintro e w2 ⟨rfl, hb2⟩
        have hh0 : w2.heap[w.heap.size]? = some (bTab 0 (.slice none 0 0)) := (hb2.block _ (by omega)).trans HH.out.1
        have hh1 : w2.heap[w.heap.size + 1]? = some (bTab b (.slice vo m vc)) := (hb2.block _ (by omega)).trans HH.out.2
        obtain ⟨e0, e1, ze⟩ := blk2 hh1
        have hz2 : w.heap.size + 2 ≤ w2.heap.size := Nat.le_trans hz hb2.size
        have R : Hid ((w2.setCell ⟨w.heap.size + 1, 0, none⟩ (.int .i64 v3)).ownsRow (w.heap.size + 2) 70 4 (.slice vo m vc) m (flatP ps) ∧ Below w.heap.size w (w2.setCell ⟨w.heap.size + 1, 0, none⟩ (.int .i64 v3)) ∧
            (w2.setCell ⟨w.heap.size + 1, 0, none⟩ (.int .i64 v3)).heap[w.heap.size]? = some (bTab 0 (.slice none 0 0)) ∧ (w2.setCell ⟨w.heap.size + 1, 0, none⟩ (.int .i64 v3)).heap[w.heap.size + 1]? = some (bTab v3 (.slice vo m vc))) :=
          ⟨ownsRow_setCell_below (own_below hown hb2) (by show w.heap.size + 1 < _; omega) _, (nx_trans hbel hb2).setCell (Nat.le_succ _) _, (Below.heap_setCell _ _ _ _ (by show w.heap.size ≠ w.heap.size + 1; omega)).trans hh0, set_heap _ _ _ _ _ _ hh1⟩
        clear hb2 hh0 hh1 hown hbel c0 c1 c2 c3 c4 hz
        go_wp2_with fail
        go_roundw
        case rel => exact ⟨k + 1, m, v3, ps, vo, vc, by omega, by go_num, by omega, ⟨HX.out, HS.out.2⟩, ⟨R.out.2.2.1, R.out.2.2.2⟩, R.out.1, R.out.2.1, by simpa using hz2⟩
        case measure => simp [intOf]; omega
      · have hkb : ((l.kind : Int) == 1) = false := by rw [int_eq1]; simp [hk1]
        by_cases hk3 : l.kind = 3
        · have HX : Hid (tabTo ls (k + 1) = (b, insP (poolC ls l) ps)) := by
            show _ = _
            rw [HT.out, HS.out.1, tabStep, if_neg hk1, if_pos hk3]
          have hkb3 : ((l.kind : Int) == 3) = true := by rw [hk3]; rfl
          have HPO := hideIt (poolOf_any l l.place l.kind so sc l.sets.length ao cap n ls wr (HL.out.1.nx hbel) HL.out.2.1 hn1 hrow rfl hsl1 HL.out.2.2)
          obtain ⟨pc, hpc⟩ : ∃ pc, poolC ls l = pc := ⟨_, rfl⟩
          rw [hpc] at HX HPO
          subst hao
          clear hk1 hk3 HT hrow hpc
          go_wp2_with fail
          refine HPO.out.mono ?_
          rintro e w2 ⟨rfl, hb2⟩
          have hh0 : w2.heap[w.heap.size]? = some (bTab 0 (.slice none 0 0)) := (hb2.block _ (by omega)).trans HH.out.1
          have hh1 : w2.heap[w.heap.size + 1]? = some (bTab b (.slice vo m vc)) := (hb2.block _ (by omega)).trans HH.out.2
          have hz2 : w.heap.size + 2 ≤ w2.heap.size := Nat.le_trans hz hb2.size
          obtain ⟨nm, sz, wt, fr⟩ := pc
          obtain ⟨W3, hW3⟩ : ∃ W3, W3 = w2.alloc (bPl ⟨nm, sz, wt, fr⟩) := ⟨_, rfl⟩
          have hb3 : Below w2.heap.size w2 W3 := by rw [hW3]; exact nx_alloc _ _
          have hown3 := own_below (own_below hown hb2) hb3
          have HI := hideIt (insert_any ⟨nm, sz, wt, fr⟩ vo vc m ps W3 (own_row hown3) HS.out.2 (by omega))
          have k0 := fun o => (blk2 (w := w2.alloc o) ((heap_alloc_lt' _ _ (show w.heap.size + 1 < w2.heap.size by omega)).trans hh1)).1
          have k1 := fun o => (blk2 (w := w2.alloc o) ((heap_alloc_lt' _ _ (show w.heap.size + 1 < w2.heap.size by omega)).trans hh1)).2.1
          have H3 : Hid (W3 = w2.alloc (bPl ⟨nm, sz, wt, fr⟩) ∧ Below w.heap.size w W3 ∧ W3.heap[w.heap.size]? = some (bTab 0 (.slice none 0 0)) ∧ W3.heap[w.heap.size + 1]? = some (bTab b (.slice vo m vc)) ∧ w.heap.size + 2 ≤ W3.heap.size) :=
            ⟨hW3, nx_trans (nx_trans hbel hb2) hb3, (hb3.block _ (by omega)).trans hh0, (hb3.block _ (by omega)).trans hh1, Nat.le_trans hz2 hb3.size⟩
          clear hb2 hb3 hh0 hh1 hown hown3 hbel hW3 c0 c1 c2 c3 c4 hz
          go_wp2_with fail
          rw [← H3.out.1]
          refine HI.out.mono ?_
          rintro e w4 ⟨v4, rfl, hown4, hb4⟩
          obtain ⟨vo4, vc4, hv4, _⟩ := own_row hown4
          subst hv4
          obtain ⟨m4, hm4⟩ : ∃ m4, (insP ⟨nm, sz, wt, fr⟩ ps).length = m4 := ⟨_, rfl⟩
          rw [hm4] at hown4 ⊢
          have HM41 : Hid (m4 = m + 1) := hideIt (by rw [← hm4, insP_len, HS.out.2])
          have hh1 : w4.heap[w.heap.size + 1]? = some (bTab b (.slice vo m vc)) := (hb4.block _ (by have := H3.out.2.2.2.2; omega)).trans H3.out.2.2.2.1
          have hh0 : w4.heap[w.heap.size]? = some (bTab 0 (.slice none 0 0)) := (hb4.block _ (by have := H3.out.2.2.2.2; omega)).trans H3.out.2.2.1
          obtain ⟨e0, e1, ze⟩ := blk2 hh1
          have R : Hid ((w4.setCell ⟨w.heap.size + 1, 1, none⟩ (.slice vo4 m4 vc4)).ownsRow (w.heap.size + 2) 70 4 (.slice vo4 m4 vc4) m4 (flatP (insP ⟨nm, sz, wt, fr⟩ ps)) ∧ Below w.heap.size w (w4.setCell ⟨w.heap.size + 1, 1, none⟩ (.slice vo4 m4 vc4)) ∧
              (w4.setCell ⟨w.heap.size + 1, 1, none⟩ (.slice vo4 m4 vc4)).heap[w.heap.size]? = some (bTab 0 (.slice none 0 0)) ∧ (w4.setCell ⟨w.heap.size + 1, 1, none⟩ (.slice vo4 m4 vc4)).heap[w.heap.size + 1]? = some (bTab b (.slice vo4 m4 vc4)) ∧ w.heap.size + 2 ≤ w4.heap.size ∧ (insP ⟨nm, sz, wt, fr⟩ ps).length = m4) :=
            ⟨ownsRow_setCell_below (own_mono hown4 H3.out.2.2.2.2) (by show w.heap.size + 1 < _; omega) _, (nx_trans H3.out.2.1 hb4).setCell (Nat.le_succ _) _, (Below.heap_setCell _ _ _ _ (by show w.heap.size ≠ w.heap.size + 1; omega)).trans hh0, set_heap _ _ _ _ _ _ hh1, Nat.le_trans H3.out.2.2.2.2 hb4.size, hm4⟩
          clear hb4 hh0 hh1 hown4 hm4 k0 k1
          go_wp2_with fail
          go_roundw
          case rel => exact ⟨k + 1, m4, b, insP ⟨nm, sz, wt, fr⟩ ps, vo4, vc4, by omega, by go_num, by have := HM41.out; omega, ⟨HX.out, R.out.2.2.2.2.2⟩, ⟨R.out.2.2.1, R.out.2.2.2.1⟩, R.out.1, R.out.2.1, by simpa using R.out.2.2.2.2.1⟩
          case measure => simp [intOf]; omega
        · have hkb3 : ((l.kind : Int) == 3) = false := by simp; omega
          have HX : Hid (tabTo ls (k + 1) = (b, ps)) := by
            show _ = _
            rw [HT.out, HS.out.1, tabStep, if_neg hk1, if_neg hk3]
          subst hao
          clear hk1 hk3 HT hrow
          go_wp2_with fail
          go_roundw
          case rel => exact ⟨k + 1, m, b, ps, vo, vc, by omega, by go_num, by omega, ⟨HX.out, HS.out.2⟩, HH.out, hown, hbel, hz⟩
          case measure => simp [intOf]; omega
    · obtain rfl : k = n := by omega
      obtain ⟨r0, r1, zr⟩ := blk2 HH.out.1
      obtain ⟨e0, e1, ze⟩ := blk2 HH.out.2
      have HX : Hid (tabTo ls k = (b, ps) ∧ ps.length = m ∧ wr.ownsRow w.heap.size 70 4 (.slice vo m vc) m (flatP ps) ∧ wr.ownsRow (w.heap.size + 2) 70 4 (.slice vo m vc) m (flatP ps) ∧ Below w.heap.size w wr) := ⟨HS.out.1, HS.out.2, own_mono hown (by omega), hown, hbel⟩
      clear hown hbel
      go_wp2_with fail
      refine bodyPost_ret (v := .agg #[.int .i64 b, .slice vo m vc]) (by simp [results, Tryz.results57, go_sem, r0, r1]) rfl ⟨vo, vc, ?_, ?_, ?_⟩
      · rw [HX.out.1]; simp only; rw [HX.out.2.1]
      · rw [HX.out.1]; simp only; rw [HX.out.2.1]
        exact own_mono (ownsRow_setCell_below (ownsRow_setCell_below HX.out.2.2.2.1 (by show w.heap.size < _; omega) _) (by show w.heap.size < _; omega) _) (by omega)
      · exact (HX.out.2.2.2.2.setCell (Nat.le_refl _) _).setCell (Nat.le_refl _) _
end Co
end Go.Proofs.YtmmmjpkhnbfnbaaGreat
