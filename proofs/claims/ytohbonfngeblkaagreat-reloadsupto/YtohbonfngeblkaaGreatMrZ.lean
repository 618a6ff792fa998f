import Derived.Test.YtohbonfngeblkaaGreatMrY
import Derived.BigQuiet
namespace Go.Proofs.YtohbonfngeblkaaGreat
open Go.RowKit
namespace Co
def lastN (ps : List Pl) : ByteArray := match ps.getLast? with | some p => p.nm | none => ⟨#[]⟩
theorem textL_eq (st : Sty) (last : ByteArray) (b : Int) (qs : List Pl) : textL st last b qs = lineL st (fsBud st b) ++ qs.flatMap (grpL st last) := by
  unfold textL textN
  rw [List.map_cons, List.flatMap_cons, List.map_flatMap, List.flatMap_assoc]
  rfl
theorem last_at {ps : List Pl} {p : Pl} {n : Nat} (hn : ps.length = n) (h : ps[n - 1]? = some p) : lastN ps = p.nm := by
  unfold lastN
  rw [List.getLast?_eq_getElem?, hn, h]
theorem ord_at {st : Sty} {ps : List Pl} {n i : Nat} (hn : ps.length = n) (hi : i < n) : (ordP st ps)[i]? = ps[if st.b9 = true then n - 1 - i else i]? := by
  unfold ordP
  cases st.b9 with
  | false => rfl
  | true => simp only [if_true]; rw [List.getElem?_reverse (by omega), hn]
theorem take_flat {α β : Type} (l : List α) (f : α → List β) {i : Nat} {x : α} (h : l[i]? = some x) : (l.take (i + 1)).flatMap f = (l.take i).flatMap f ++ f x := by
  obtain ⟨hk, e⟩ := List.getElem?_eq_some_iff.1 h
  rw [List.take_succ_eq_append_getElem hk, List.flatMap_append, e]
  simp
theorem grps_len (st : Sty) {last : ByteArray} (hl : isNm last = true) : ∀ qs : List Pl, (∀ p ∈ qs, Okp p) → (qs.flatMap (grpL st last)).length ≤ 130 * qs.length
  | [], _ => by simp
  | q :: r, h => by
    have h1 := grp_len st (h q List.mem_cons_self) hl
    have h2 := grps_len st hl r (fun x hx => h x (List.mem_cons_of_mem _ hx))
    rw [List.flatMap_cons, List.length_append, List.length_cons]
    unfold grpL at *
    omega
theorem bud_len (st : Sty) {b : Int} (h : b ≤ 99) : (lineL st (fsBud st b)).length ≤ 30 := by
  have h2 := line_len st (fsBud st b)
  have d := lenD st (n := b) (by omega)
  have h3 : ((fsBud st b).map fun f => f.length + 2).sum ≤ 14 := by simp [fsBud]; omega
  omega
theorem sm2 {a b : ByteArray} (h1 : a.size ≤ 8) (h2 : b.size ≤ 8) : ∀ x ∈ [a, b], x.size ≤ 1000 := by
  intro x hx
  simp only [List.mem_cons, List.not_mem_nil, or_false] at hx
  rcases hx with rfl | rfl <;> omega
abbrev cells2 (a b : ByteArray) : Obj := .cells #[.string a, .string b] 9
set_option maxRecDepth 20000 in
set_option maxHeartbeats 2000000 in
theorem text_any (b : Int) (ps : List Pl) (ao : Option Addr) (cap n : Nat) (style : Int) (w : World) (hr : RowAt w (.slice ao n cap) n (flatP ps)) (hn : ps.length = n) (ht : Okt b ps) (hst : I64 style) :
    Calls Tryz.prog 22 #[.agg #[.int .i64 b, .slice ao n cap], .int .i64 style] w fun e w' => (∃ s, tl s = textL (stOf style) (lastN ps) b (ordP (stOf style) ps) ∧ e = .returned (.string s)) ∧ Below w.heap.size w w' := by
  have HST := hideIt hst
  obtain ⟨h1, h2⟩ := hst
  have hb0 := ht.b0
  have hb1 := ht.b1
  have hn6 : n ≤ 6 := by rw [← hn]; exact ht.len
  have HOK := hideIt ht.ok
  obtain ⟨q, rfl⟩ : ∃ q : Nat, b = q := ⟨b.toNat, by omega⟩
  have HR : Hid (RowAt (w.alloc (bTab q (.slice ao n cap))) (.slice ao n cap) n (flatP ps) ∧ ps.length = n) := ⟨hr.nx (nx_alloc _ _), hn⟩
  clear ht hr hn
  obtain ⟨st, hsty⟩ : ∃ st, stOf style = st := ⟨_, rfl⟩
  have HBB : Hid (st.b4 = bt (style / 16) ∧ st.b9 = bt (style / 512)) := by rw [← hsty]; exact ⟨rfl, rfl⟩
  have HSTY := hideIt hsty
  rw [hsty]
  clear hsty
  obtain ⟨b4, hb4⟩ : ∃ x, bt (style / 16) = x := ⟨_, rfl⟩
  have hb4' : (bits BinOp.and IntKind.i64 (style / 16) 1 == 1) = b4 := hb4
  have HS4 : Hid (st.b4 = b4) := by show _ = _; rw [HBB.out.1, hb4]
  obtain ⟨b9, hb9⟩ : ∃ x, bt (style / 512) = x := ⟨_, rfl⟩
  have hb9' : (bits BinOp.and IntKind.i64 (style / 512) 1 == 1) = b9 := hb9
  have HS9 : Hid (st.b9 = b9) := by show _ = _; rw [HBB.out.2, hb9]
  clear hb4 hb9
  have HD := hideIt (digits_any q b4 (w.alloc (bTab q (.slice ao n cap))) (by omega))
  go_enter Tryz.func22, Tryz.ntmps22
  go_wp2_with fail
  refine HD.out.mono ?_
  rintro e wa ⟨⟨sa, hsa, rfl⟩, hba⟩
  have KA : Hid (tl sa = fltD st (q : Int) ∧ Below w.heap.size w wa ∧ wa.heap[w.heap.size]? = some (bTab q (.slice ao n cap)) ∧ w.heap.size < wa.heap.size ∧ RowAt wa (.slice ao n cap) n (flatP ps)) := by
    refine ⟨by rw [hsa, fltD, HS4.out, Int.toNat_natCast], nx_trans (nx_alloc _ _) hba, (hba.block _ (by simp)).trans (heap_alloc_at _ _ rfl), sz_lt hba, HR.out.1.nx hba⟩
  have hsa8 : sa.size ≤ 4 := by
    rw [← tl_len, KA.out.1]; exact lenD st (by omega)
  clear hba hsa HD
  have HL := hideIt (line_new [sBudget, sa] style wa 2 _ rfl rfl (by omega) (sm2 smw.1 (by omega)) HST.out)
  go_wp2_with fail
  refine HL.out.mono ?_
  rintro e wd ⟨⟨t0, ht0, rfl⟩, rfl⟩
  obtain ⟨W, hW⟩ : ∃ W, W = wa.alloc (.cells (strs [sBudget, sa]).toArray 9) := ⟨_, rfl⟩
  have KB : Hid (tl t0 = lineL st (fsBud st q) ∧ Below w.heap.size w W ∧ W.heap[w.heap.size]? = some (bTab q (.slice ao n cap)) ∧ w.heap.size < W.heap.size ∧ RowAt W (.slice ao n cap) n (flatP ps)) := by
    refine ⟨?_, ?_, ?_, ?_, ?_⟩
    · rw [ht0, HSTY.out]
      congr 1
      simp [fsBud, KA.out.1]
    · rw [hW]; exact KA.out.2.1.alloc KA.out.2.1.size _
    · rw [hW]; exact (heap_alloc_lt _ _ KA.out.2.2.2.1).trans KA.out.2.2.1
    · rw [hW]; simp; have := KA.out.2.2.2.1; omega
    · rw [hW]; exact KA.out.2.2.2.2.nx (nx_alloc _ _)
  rw [← hW]
  clear hW ht0 HL
  obtain ⟨e0, e1, ze⟩ := blk2 KB.out.2.2.1
  go_wp2_with fail
  clear e0 e1 ze
  go_loopw [5, 7] (fun o i wr => ∃ (k : Nat) (t : ByteArray), k ≤ n ∧ i = .int .i64 k ∧ o = .string t ∧ Hid (tl t = lineL st (fsBud st q) ++ ((ordP st ps).take k).flatMap (grpL st (lastN ps))) ∧ Hid (Below W.heap.size W wr)) (fun _ i _ => n - (intOf i).toNat)
  case atStart => exact ⟨0, t0, Nat.zero_le _, rfl, rfl, by show _ = _; rw [KB.out.1]; simp, Below.refl _ _⟩
  case round =>
    obtain ⟨k, t, hk, rfl, rfl, hT, hB⟩ := hrel
    have hh : wr.heap[w.heap.size]? = some (bTab q (.slice ao n cap)) := (hB.out.block _ KB.out.2.2.2.1).trans KB.out.2.2.1
    obtain ⟨e0, e1, ze⟩ := blk2 hh
    clear hh
    by_cases hlt : k < n
    · have HB9 : Hid (st.b9 = b9) := HS9
      obtain ⟨j, hj⟩ : ∃ j : Nat, (if b9 = true then n - 1 - k else k) = j := ⟨_, rfl⟩
      have hjn : j < n := by rw [← hj]; split <;> omega
      obtain ⟨p, hp⟩ : ∃ p, ps[j]? = some p := ⟨_, List.getElem?_eq_getElem (by rw [HR.out.2]; exact hjn)⟩
      obtain ⟨pl, hpl⟩ : ∃ p, ps[n - 1]? = some p := ⟨_, List.getElem?_eq_getElem (by rw [HR.out.2]; omega)⟩
      have HP : Hid ((ordP st ps)[k]? = some p ∧ lastN ps = pl.nm ∧ Okp p ∧ Okp pl ∧ n - 1 < n) := by
        refine ⟨?_, last_at HR.out.2 hpl, HOK.out p (List.mem_of_getElem? hp), HOK.out pl (List.mem_of_getElem? hpl), by omega⟩
        rw [ord_at HR.out.2 hlt, HS9.out, hj, hp]
      have hrow := KB.out.2.2.2.2.nx hB.out
      obtain ⟨bl, off, rfl, hbl, c0, c1, c2, c3⟩ := pool_at hrow hp
      obtain ⟨bl', off', e', _, d0, _, _, _⟩ := pool_at hrow hpl
      obtain ⟨rfl, rfl⟩ : bl = bl' ∧ off = off' := by simpa using e'
      have HPO := hideIt (pool_any p pl.nm style wr.drew HP.out.2.2.1 (nm_len HP.out.2.2.2.1.nm) HST.out)
      have hts : t.size ≤ 1000 := by
        rw [← tl_len, hT.out, List.length_append]
        have g1 := bud_len st (b := (q : Int)) hb1
        have g2 := grps_len st (last := lastN ps) (by rw [HP.out.2.1]; exact HP.out.2.2.2.1.nm) ((ordP st ps).take k) (fun x hx => HOK.out x (mem_ord.1 (List.mem_of_mem_take hx)))
        have g3 : ((ordP st ps).take k).length ≤ 6 := by rw [List.length_take]; omega
        omega
      clear hp hpl e' hrow
      obtain ⟨m, hm⟩ : ∃ m, n - 1 = m := ⟨_, rfl⟩
      rw [hm] at d0
      have hwr : IntKind.i64.wrap ((n : Int) - 1) = (m : Int) := by rw [IntWalk.i64_in _ (by omega)]; omega
      have hmn : m < n := by omega
      have HM := hideIt hm
      clear hm
      obtain ⟨nm, sz, wt, fr⟩ := p
      simp only at c0 c1 c2 c3
      cases b9 with
      | false =>
        obtain rfl : k = j := by simpa using hj
        clear hj
        go_wp2_with fail
        go_region_with (go_at_call 53; refine HPO.out.mono ?_; rintro e wx ⟨⟨s, hs, rfl⟩, hbx⟩)
        all_goals
          have hsz : s.size ≤ 130 := by
            rw [← tl_len, hs]
            exact grp_len (stOf style) HP.out.2.2.1 HP.out.2.2.2.1.nm
          have HN : Hid (tl (t ++ s) = lineL st (fsBud st q) ++ ((ordP st ps).take (k + 1)).flatMap (grpL st (lastN ps))) := by
            show _ = _
            rw [tl_add, hT.out, hs, HSTY.out, take_flat _ _ HP.out.1, HP.out.2.1, List.append_assoc]
          have HX : Hid (Below W.heap.size W wx) := nx_trans hB.out (nx_trans (Below.refl _ _).drew hbx)
          clear hs hbx
          go_wp2_with fail
          go_roundw
          case rel => exact ⟨k + 1, _, by omega, by go_num, rfl, HN.out, HX.out⟩
          case measure => simp [intOf]; omega
      | true =>
        have hjk : (m : Int) - (k : Int) = (j : Int) := by have := HM.out; simp only [if_true] at hj; omega
        clear hj
        go_wp2_with fail
        go_region_with (go_at_call 53; refine HPO.out.mono ?_; rintro e wx ⟨⟨s, hs, rfl⟩, hbx⟩)
        all_goals
          have hsz : s.size ≤ 130 := by
            rw [← tl_len, hs]
            exact grp_len (stOf style) HP.out.2.2.1 HP.out.2.2.2.1.nm
          have HN : Hid (tl (t ++ s) = lineL st (fsBud st q) ++ ((ordP st ps).take (k + 1)).flatMap (grpL st (lastN ps))) := by
            show _ = _
            rw [tl_add, hT.out, hs, HSTY.out, take_flat _ _ HP.out.1, HP.out.2.1, List.append_assoc]
          have HX : Hid (Below W.heap.size W wx) := nx_trans hB.out (nx_trans (Below.refl _ _).drew hbx)
          clear hs hbx
          go_wp2_with fail
          go_roundw
          case rel => exact ⟨k + 1, _, by omega, by go_num, rfl, HN.out, HX.out⟩
          case measure => simp [intOf]; omega
    · go_wp2_with fail
      go_ret
      refine ⟨⟨t, ?_, rfl⟩, nx_trans KB.out.2.1 hB.out⟩
      rw [hT.out, textL_eq, List.take_of_length_le]
      have : (ordP st ps).length = n := by rw [← HR.out.2]; unfold ordP; cases st.b9 <;> simp
      omega
end Co
end Go.Proofs.YtohbonfngeblkaaGreat
