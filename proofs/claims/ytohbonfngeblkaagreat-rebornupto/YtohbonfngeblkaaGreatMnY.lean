import Derived.Test.YtohbonfngeblkaaGreatMnK
import Derived.Test.YtohbonfngeblkaaGreatMnV
import Derived.Deep.RegionWith
import Derived.Deep.DeepCutAuto
import Derived.Deep.CutBlock
import Derived.Deep.RegionHeld3
import Derived.BigCall
import Derived.Laws.AppendOwnNone
import Derived.Test.YtohbonfngeblkaaGreatMnX
import Derived.Test.YtohbonfngeblkaaGreatMnT
namespace Go.Proofs.YtohbonfngeblkaaGreat
open Go.RowKit
namespace Co
set_option maxRecDepth 20000 in
set_option maxHeartbeats 1000000 in
theorem ksame_true (b : Int) (ao1 ao2 : Option Addr) (n c1 c2 : Nat) (ps : List Pl) (w : World) (hr1 : RowAt w (.slice ao1 n c1) n (flatP ps)) (hr2 : RowAt w (.slice ao2 n c2) n (flatP ps)) (hn : ps.length = n) (hlen : n ≤ maxLen) :
    Calls Tryz.prog 18 #[.agg #[.int .i64 b, .slice ao1 n c1], .agg #[.int .i64 b, .slice ao2 n c2]] w fun e w' => e = .returned (.bool true) ∧ Below w.heap.size w w' := by
  unfold maxLen at hlen
  have HN : Hid (ps.length = n) := hn
  clear hn
  have HP : Hid (RowAt ((w.alloc (bTab b (.slice ao1 n c1))).alloc (bTab b (.slice ao2 n c2))) (.slice ao1 n c1) n (flatP ps) ∧ RowAt ((w.alloc (bTab b (.slice ao1 n c1))).alloc (bTab b (.slice ao2 n c2))) (.slice ao2 n c2) n (flatP ps)) :=
    ⟨(hr1.nx (nx_alloc _ _)).nx (nx_alloc _ _), (hr2.nx (nx_alloc _ _)).nx (nx_alloc _ _)⟩
  clear hr1 hr2
  go_enter Tryz.func18, Tryz.ntmps18
  go_wp2_with fail
  go_loopw [5] (fun i wr => ∃ (k : Nat), k ≤ n ∧ i = .int .i64 k ∧
      Below ((w.alloc (bTab b (.slice ao1 n c1))).alloc (bTab b (.slice ao2 n c2))).heap.size ((w.alloc (bTab b (.slice ao1 n c1))).alloc (bTab b (.slice ao2 n c2))) wr) (fun i _ => n - (intOf i).toNat)
  case atStart => exact ⟨0, Nat.zero_le _, rfl, Below.refl _ _⟩
  case round =>
    obtain ⟨k, hk, rfl, hbel⟩ := hrel
    have hcell : wr.cell? ⟨w.heap.size, 1, none⟩ = some (.slice ao1 n c1) := by
      refine (hbel.cell (p := ⟨w.heap.size, 1, none⟩) (by simp; omega)).trans ?_
      simp
    have hcell2 : wr.cell? ⟨w.heap.size + 1, 1, none⟩ = some (.slice ao2 n c2) := by
      refine (hbel.cell (p := ⟨w.heap.size + 1, 1, none⟩) (by simp)).trans ?_
      simp
    have HB : Hid (Below w.heap.size w wr) := nx_trans (nx_trans (nx_alloc _ _) (nx_alloc _ _)) hbel
    by_cases hlt : k < n
    · obtain ⟨⟨nm, sz, wt, fr⟩, hp⟩ : ∃ p, ps[k]? = some p := ⟨_, List.getElem?_eq_getElem (by rw [HN.out]; exact hlt)⟩
      obtain ⟨bl, off, hao, hbl, c0, c1', c2', c3⟩ := pool_at (HP.out.1.nx hbel) hp
      obtain ⟨bl', off', hao', hbl', d0, d1, d2, d3⟩ := pool_at (HP.out.2.nx hbel) hp
      subst hao hao'
      clear hp hbl hbl'
      simp only at c0 c1' c2' c3 d0 d1 d2 d3
      have hlti : (k : Int) < (n : Int) := by omega
      go_wp2_with fail
      go_quiet (fail)
      go_wp2_with fail
      go_roundw
      case rel => exact ⟨k + 1, by omega, by go_num, below_drewN hbel _⟩
      case measure => simp [intOf]; omega
    · go_wp2_with fail
      go_ret
      exact ⟨rfl, HB.out⟩
theorem kown_le {w : World} {B : Nat} {e : TypeId} {size : Nat} {v : Value} {n : Nat} {xs : List Value} (h : w.ownsRow B e size v n xs) : n ≤ maxLen := by
  rcases h.2 with ⟨_, rfl⟩ | ⟨g, cap, cur, _, _, _, hn, hm, _⟩
  · exact Nat.zero_le _
  · exact Nat.le_trans hn hm
theorem kflat_len : ∀ l : List Pl, (flatP l).length = l.length * 4
  | [] => rfl
  | p :: r => by simp [flatP, kflat_len r]; omega
theorem kflat_one : ∀ (l : List Pl), ∀ u ∈ flatP l, u.oneCell' = true
  | [], u, h => by simp [flatP] at h
  | p :: r, u, h => by
    simp only [flatP, List.mem_cons] at h
    rcases h with rfl | rfl | rfl | rfl | h
    · rfl
    · rfl
    · rfl
    · rfl
    · exact kflat_one r u h
theorem append_row {w : World} {ops : Array Oper} {rest : List Oper} {o : Oper} {a : Act} {Q : Exit → Act → World → Prop} (hgd : o.guard = none) (s x : Operand)
    (ho : o.op = .call { callee := .builtin .append, args := #[s, x], argTypes := #[22, 22] }) (base : Nat)
    (v : Value) (n : Nat) (xs : List Pl) (hs : a.eval s = v) (hown : w.ownsRow base 75 4 v n (flatP xs))
    (so : Option Addr) (m c : Nat) (news : List Pl) (hx : a.eval x = .slice so m c) (hnl : news.length = m) (hrow : RowAt w (.slice so m c) m (flatP news)) (hnil : so = none → c = 0)
    (h6 : n + m ≤ 100) (hbase : base ≤ w.heap.size)
    (h : ∀ v' w', w'.ownsRow base 75 4 v' (n + m) (flatP (xs ++ news)) → Below base w w' → wpList Tryz.prog ops Q rest (a.put o.dst v') w') : wpList Tryz.prog ops Q (o :: rest) a w := by
  obtain ⟨t0, hi, hz0, hz1, hz2⟩ := info_parts info_pl
  cases so with
  | none =>
    have hm : m = 0 := by
      obtain ⟨ao', c', e, _, hh⟩ := hrow
      rcases hh with hh | ⟨b, off, e', _⟩
      · cases news with
        | nil => simpa using hnl.symm
        | cons q r => simp [flatP] at hh
      · simp only [Value.slice.injEq] at e
        rw [e'] at e
        simp at e
    subst hm
    have hc : c = 0 := hnil rfl
    subst hc
    obtain rfl : news = [] := List.length_eq_zero_iff.1 hnl
    refine wpList_append_own_none hgd s x 22 ho base 75 t0 4 Tryz.underlying22 hi v n (flatP xs) hs hown hx ?_
    exact h v w (by simpa using hown) (Below.refl _ _)
  | some ad =>
    refine wpList_append_own _ hgd s x 22 ho base 75 t0 _ 4 40 Tryz.underlying22 hi hz0 hz1 hz2 rfl (by decide) v n (flatP xs) hs hown ad m c (flatP news) hx (by rw [kflat_len, hnl]) ?_ ?_ (by unfold maxLen; omega) (by omega) hbase ?_
    · intro j u hj
      obtain ⟨b, off, e, _, g⟩ := hrow.at hj
      obtain rfl : ad = ⟨b, off, none⟩ := by simpa using e
      rw [show (⟨b, off, none⟩ : Addr).add j = ⟨b, off + j, none⟩ by unfold Addr.add; split <;> simp_all]
      exact g
    · exact kflat_one news
    · intro v' w' ho' hg _
      refine h v' w' (by rw [flatP_append]; exact ho') ?_
      exact (Below.refl _ _).grown hg hbase (fun g hg => (hown.lt g hg).1)
theorem put_up {ps : List Pl} {p : Pl} {j : Nat} (h : ps.Pairwise (fun a b => lt a.nm b.nm = true)) (h1 : ∀ x ∈ ps.take j, lt x.nm p.nm = true) (h2 : ∀ x ∈ ps.drop j, lt p.nm x.nm = true) :
    (ps.take j ++ p :: ps.drop j).Pairwise (fun a b => lt a.nm b.nm = true) := by
  rw [← List.take_append_drop j ps, List.pairwise_append] at h
  rw [List.pairwise_append, List.pairwise_cons]
  refine ⟨h.1, ⟨h2, h.2.1⟩, fun a ha b hb => ?_⟩
  rcases List.mem_cons.1 hb with rfl | hb
  · exact h1 a ha
  · exact h.2.2 a ha b hb
theorem lt_trans' {a b c : ByteArray} (h1 : lt a b = true) (h2 : lt b c = true) : lt a c = true := by
  unfold lt at *
  generalize a.toList = x at *
  generalize b.toList = y at *
  generalize c.toList = z at *
  induction x generalizing y z with
  | nil =>
    cases y with
    | nil => simp [Op.bytesLess] at h1
    | cons y0 y =>
      cases z with
      | nil => simp [Op.bytesLess] at h2
      | cons z0 z => rfl
  | cons x0 x ih =>
    cases y with
    | nil => simp [Op.bytesLess] at h1
    | cons y0 y =>
      cases z with
      | nil => simp [Op.bytesLess] at h2
      | cons z0 z =>
        simp only [Op.bytesLess, Bool.or_eq_true, Bool.and_eq_true, decide_eq_true_eq, beq_iff_eq] at h1 h2 ⊢
        rcases h1 with h1 | ⟨rfl, h1⟩
        · rcases h2 with h2 | ⟨rfl, h2⟩
          · exact .inl (UInt8.lt_trans h1 h2)
          · exact .inl h1
        · rcases h2 with h2 | ⟨rfl, h2⟩
          · exact .inl h2
          · exact .inr ⟨rfl, ih y h1 z h2⟩
theorem lt_total {a b : ByteArray} (h1 : lt a b = false) (h2 : (a.toList == b.toList) = false) : lt b a = true := by
  have := leq_lt a b
  unfold lt at *
  rw [h1, h2] at this
  simpa using this
theorem drop_up {ps : List Pl} {j : Nat} {x : Pl} {nm : ByteArray} (h : ps.Pairwise (fun a b => lt a.nm b.nm = true)) (hx : ps[j]? = some x) (h1 : lt nm x.nm = true) : ∀ y ∈ ps.drop j, lt nm y.nm = true := by
  rw [drop_at hx]
  intro y hy
  rcases List.mem_cons.1 hy with rfl | hy
  · exact h1
  · have h3 := h
    rw [← List.take_append_drop j ps, List.pairwise_append, drop_at hx, List.pairwise_cons] at h3
    exact lt_trans' h1 (h3.2.1.1 y hy)
structure BS (w : World) (b : Int) (sv : Value) (r : Int) (v : Value) (m : Nat) (ps : List Pl) (wr : World) : Prop where
  h0 : wr.heap[w.heap.size]? = some (bTab b sv)
  h1 : wr.heap[w.heap.size + 1]? = some (bTab 0 (.slice none 0 0))
  h2 : wr.heap[w.heap.size + 2]? = some (bTab r v)
  own : wr.ownsRow (w.heap.size + 3) 75 4 v m (flatP ps)
  bel : Below w.heap.size w wr
  sz : w.heap.size + 3 ≤ wr.heap.size
theorem BS.nx {w : World} {b : Int} {sv : Value} {r : Int} {v : Value} {m : Nat} {ps : List Pl} {wr wx : World} (h : BS w b sv r v m ps wr) (hb : Below wr.heap.size wr wx) : BS w b sv r v m ps wx :=
  have hs := h.sz
  ⟨(hb.block _ (by omega)).trans h.h0, (hb.block _ (by omega)).trans h.h1, (hb.block _ (by omega)).trans h.h2, own_below h.own hb, nx_trans h.bel hb, Nat.le_trans h.sz hb.size⟩
theorem BS.put {w : World} {b : Int} {sv : Value} {r : Int} {v v' : Value} {m m' B : Nat} {ps ps' : List Pl} {wr : World} (h : BS w b sv r v m ps wr) (hown : wr.ownsRow B 75 4 v' m' (flatP ps')) (hB : w.heap.size + 3 ≤ B) :
    BS w b sv r v' m' ps' (wr.setCell ⟨w.heap.size + 2, 1, none⟩ v') := by
  refine ⟨?_, ?_, ?_, ?_, ?_, ?_⟩
  · exact (Below.heap_setCell _ _ _ _ (by show w.heap.size ≠ w.heap.size + 2; omega)).trans h.h0
  · exact (Below.heap_setCell _ _ _ _ (by show w.heap.size + 1 ≠ w.heap.size + 2; omega)).trans h.h1
  · exact set_heap _ _ _ _ _ _ h.h2
  · exact ownsRow_setCell_below (own_mono hown hB) (by show w.heap.size + 2 < _; omega) _
  · exact h.bel.setCell (by show w.heap.size ≤ w.heap.size + 2; omega) _
  · have := h.sz; simpa using this
theorem row_takeP {w : World} {g o m vc : Nat} {ps : List Pl} (h : RowAt w (.slice (some ⟨g, o, none⟩) m vc) m (flatP ps)) (hm : ps.length = m) {j : Nat} (hj : j ≤ m) : RowAt w (.slice (some ⟨g, o, none⟩) j vc) j (flatP (ps.take j)) := by
  have hc := row_len h
  refine ⟨_, _, rfl, by omega, ?_⟩
  by_cases h0 : ps.take j = []
  · left; rw [h0]; rfl
  · right
    have hne : ∃ p, ps[0]? = some p := by
      cases ps with
      | nil => simp at h0
      | cons p r => exact ⟨p, rfl⟩
    obtain ⟨p0, hp0⟩ := hne
    obtain ⟨b', o', e, hb, _⟩ := pool_at h hp0
    obtain ⟨rfl, rfl⟩ : g = b' ∧ o = o' := by simpa using e
    refine ⟨g, o, rfl, hb, fun i x hx => ?_⟩
    have hx' : (flatP ps)[i]? = some x := by
      rw [← List.take_append_drop j ps, flatP_append]
      obtain ⟨hi, _⟩ := List.getElem?_eq_some_iff.1 hx
      rw [List.getElem?_append_left hi]
      exact hx
    obtain ⟨b'', o'', e2, _, g2⟩ := h.at hx'
    obtain ⟨rfl, rfl⟩ : g = b'' ∧ o = o'' := by simpa using e2
    exact g2
theorem row_dropP {w : World} {g o m vc : Nat} {ps : List Pl} (h : RowAt w (.slice (some ⟨g, o, none⟩) m vc) m (flatP ps)) (hm : ps.length = m) {j : Nat} (hj : j ≤ m) : RowAt w (.slice (if vc = j then some ⟨g, o, none⟩ else some ⟨g, o + j * 4, none⟩) (m - j) (vc - j)) (m - j) (flatP (ps.drop j)) := by
  have hc := row_len h
  refine ⟨_, _, rfl, by omega, ?_⟩
  by_cases h0 : ps.drop j = []
  · left; rw [h0]; rfl
  · right
    have hlt : j < m := by
      apply Classical.byContradiction
      intro hh
      exact h0 (List.drop_of_length_le (by omega))
    rw [if_neg (by omega)]
    obtain ⟨p0, hp0⟩ : ∃ p, ps[j]? = some p := ⟨_, List.getElem?_eq_getElem (by omega)⟩
    obtain ⟨b', o', e, hb, _⟩ := pool_at h hp0
    obtain ⟨rfl, rfl⟩ : g = b' ∧ o = o' := by simpa using e
    refine ⟨g, o + j * 4, rfl, hb, fun i x hx => ?_⟩
    have hx' : (flatP ps)[j * 4 + i]? = some x := by
      rw [← List.take_append_drop j ps, flatP_append]
      have hl : (flatP (ps.take j)).length = j * 4 := by rw [kflat_len, List.length_take]; congr 1; omega
      rw [List.getElem?_append_right (by omega), hl, Nat.add_sub_cancel_left]
      exact hx
    obtain ⟨b'', o'', e2, _, g2⟩ := h.at hx'
    obtain ⟨rfl, rfl⟩ : g = b'' ∧ o = o'' := by simpa using e2
    rw [Nat.add_assoc]
    exact g2
set_option maxRecDepth 20000 in
set_option maxHeartbeats 4000000 in
theorem Bent_any (b : Int) (xs : List Pl) (ao : Option Addr) (cap n : Nat) (w : World) (hr : RowAt w (.slice ao n cap) n (flatP xs)) (hn : xs.length = n) (hn1 : n ≤ maxLen) (hb : I64 b) (hx : ∀ x ∈ xs, I64 x.sz ∧ I64 x.wt ∧ I64 x.fr) :
    Calls Tryz.prog 28 #[.agg #[.int .i64 b, .slice ao n cap]] w fun e w' => ∃ r ps vo vc, Okt r ps ∧ e = .returned (.agg #[.int .i64 r, .slice vo ps.length vc]) ∧ w'.ownsRow w.heap.size 75 4 (.slice vo ps.length vc) ps.length (flatP ps) ∧ Below w.heap.size w w' := by
  unfold maxLen at hn1
  have HB := hideIt (bent_any b 1 99 ((w.alloc (bTab b (.slice ao n cap))).alloc (bTab 0 (.slice none 0 0))) hb (by omega) (by omega) (by omega))
  have HX := hideIt hx
  have HR : Hid (RowAt w (.slice ao n cap) n (flatP xs) ∧ xs.length = n) := ⟨hr, hn⟩
  clear hr hn hb hx
  go_enter Tryz.func28, Tryz.ntmps28
  go_wp2_with fail
  refine HB.out.mono ?_
  rintro e w1 ⟨⟨r, hr1, hr2, rfl⟩, rfl⟩
  go_wp2_with fail
  go_loopw [4] (fun i wr => ∃ (k m : Nat) (ps : List Pl) (vo : Option Addr) (vc : Nat), k ≤ n ∧ i = .int .i64 k ∧ m ≤ 6 ∧ Hid (Okt r ps ∧ ps.length = m) ∧ Hid (BS w b (.slice ao n cap) r (.slice vo m vc) m ps wr)) (fun i _ => n - (intOf i).toNat)
  case atStart =>
    refine ⟨0, 0, [], none, 0, Nat.zero_le _, rfl, Nat.zero_le _, ⟨⟨hr1, hr2, by simp, by simp, by simp⟩, rfl⟩, ?_⟩
    have hB : Below w.heap.size w (((w.alloc (bTab b (.slice ao n cap))).alloc (bTab 0 (.slice none 0 0))).alloc (bTab r (.slice none 0 0))) := nx_trans (nx_trans (nx_alloc _ _) (nx_alloc _ _)) (nx_alloc _ _)
    refine ⟨?_, ?_, ?_, World.ownsRow_nil _ _ _ _, hB, by simp⟩
    · exact (heap_alloc_lt _ _ (by simp; omega)).trans ((heap_alloc_lt _ _ (by simp)).trans (heap_alloc_at _ _ rfl))
    · exact (heap_alloc_lt _ _ (by simp)).trans (heap_alloc_at _ _ (by simp))
    · exact heap_alloc_at _ _ (by simp)
  case round =>
    obtain ⟨k, m, ps, vo, vc, hk, rfl, hm6, HO, HS⟩ := hrel
    obtain ⟨a0, a1, az⟩ := blk2 HS.out.h0
    obtain ⟨b0, b1, bz⟩ := blk2 HS.out.h1
    obtain ⟨c0, c1, cz⟩ := blk2 HS.out.h2
    have hsz : w.heap.size + 3 ≤ wr.heap.size := HS.out.sz
    by_cases hgo : k < n ∧ m < 6
    · obtain ⟨hkn, hm⟩ := hgo
      obtain ⟨x, hx⟩ : ∃ x, xs[k]? = some x := ⟨_, List.getElem?_eq_getElem (by rw [HR.out.2]; exact hkn)⟩
      have HXI := hideIt (HX.out x (List.mem_of_getElem? hx))
      obtain ⟨bl, off, rfl, hbl, d0, d1, d2, d3⟩ := pool_at (HR.out.1.nx HS.out.bel) hx
      clear hx
      obtain ⟨xn, xs0, xw, xf⟩ := x
      simp only at d0 d1 d2 d3
      have HNM := hideIt (knamed_any xn (wr.alloc (bPl ⟨xn, xs0, xw, xf⟩)))
      go_wp2_with fail
      refine HNM.out.mono ?_
      rintro e w2 ⟨⟨nm, hnm, rfl⟩, hb2⟩
      have HS2 : Hid (BS w b (.slice (some ⟨bl, off, none⟩) n cap) r (.slice vo m vc) m ps w2 ∧ w2.heap[wr.heap.size]? = some (bPl ⟨xn, xs0, xw, xf⟩) ∧ wr.heap.size < w2.heap.size ∧ isNm nm = true) :=
        ⟨HS.out.nx (nx_trans (nx_alloc _ _) hb2), (hb2.block _ (by simp)).trans (heap_alloc_at _ _ rfl), sz_lt hb2, hnm⟩
      clear a0 a1 az b0 b1 bz c0 c1 cz d0 d1 d2 d3 hb2 hnm hbl HNM
      obtain ⟨c0, c1, cz⟩ := blk2 HS2.out.1.h2
      go_upto_block 2 with fail
      go_cut [7] (fun i wx => ∃ j : Nat, i = .int .i64 j ∧ j ≤ m ∧ Hid ((∀ x ∈ ps.take j, lt x.nm nm = true) ∧ ∀ y, ps[j]? = some y → lt y.nm nm = false) ∧ w2 = wx)
      case first =>
        go_wp2_with fail
        go_loop [7] (fun i => ∃ j : Nat, i = .int .i64 j ∧ j ≤ m ∧ Hid (∀ x ∈ ps.take j, lt x.nm nm = true)) (fun i => m - (intOf i).toNat)
        case atStart => exact ⟨0, rfl, Nat.zero_le _, by intro x hx; simp at hx⟩
        case round =>
          obtain ⟨j, rfl, hj, HJ⟩ := hrel
          by_cases hjm : j < m
          · obtain ⟨y, hy⟩ : ∃ y, ps[j]? = some y := ⟨_, List.getElem?_eq_getElem (by rw [HO.out.2]; exact hjm)⟩
            obtain ⟨bl2, off2, rfl, hbl2, f0, _, _, _⟩ := pool_at (own_row HS2.out.1.own) hy
            cases hlt : lt y.nm nm with
            | true =>
              have hlb : Op.bytesLess y.nm.toList nm.toList = true := hlt
              have HN : Hid (∀ x ∈ ps.take (j + 1), lt x.nm nm = true) := by
                obtain ⟨hk', e⟩ := List.getElem?_eq_some_iff.1 hy
                intro x hx
                rw [List.take_succ_eq_append_getElem hk', e] at hx
                rcases List.mem_append.1 hx with h | h
                · exact HJ.out x h
                · simp at h; subst h; exact hlt
              clear hy hlt
              go_wp2_with fail
              go_round
              case rel => exact ⟨j + 1, by go_num, by omega, HN.out⟩
              case measure => simp [intOf]; omega
            | false =>
              have hlb : Op.bytesLess y.nm.toList nm.toList = false := hlt
              have HN : Hid (∀ z, ps[j]? = some z → lt z.nm nm = false) := by
                intro z hz
                rw [hy] at hz
                obtain rfl := Option.some.inj hz
                exact hlt
              clear hy hlt
              go_wp2_with fail
              go_meet
              exact ⟨j, rfl, hj, ⟨HJ.out, HN.out⟩, rfl⟩
          · have HN : Hid (∀ z, ps[j]? = some z → lt z.nm nm = false) := by
              intro z hz
              have := (List.getElem?_eq_some_iff.1 hz).1
              rw [HO.out.2] at this
              exact absurd this hjm
            go_wp2_with fail
            go_meet
            exact ⟨j, rfl, hj, ⟨HJ.out, HN.out⟩, rfl⟩
      case rest =>
        obtain ⟨j, rfl, hj, HJ, rfl⟩ := hcut
        go_upto_region 10 with fail
        go_cut [66] (fun bb wx => ∃ e : Bool, bb = .bool e ∧ Hid (e = false → ∀ x ∈ ps.drop j, lt nm x.nm = true) ∧ w2 = wx)
        case first =>
          by_cases hjm : j < m
          · obtain ⟨y, hy⟩ : ∃ y, ps[j]? = some y := ⟨_, List.getElem?_eq_getElem (by rw [HO.out.2]; exact hjm)⟩
            obtain ⟨bl2, off2, rfl, hbl2, f0, _, _, _⟩ := pool_at (own_row HS2.out.1.own) hy
            have HN : Hid ((y.nm.toList == nm.toList) = false → ∀ x ∈ ps.drop j, lt nm x.nm = true) := fun h => drop_up HO.out.1.up hy (lt_total (HJ.out.2 y hy) h)
            obtain ⟨eq, heq⟩ : ∃ e, (y.nm.toList == nm.toList) = e := ⟨_, rfl⟩
            rw [heq] at HN
            clear hy
            go_wp2_with fail
            go_meet
            exact ⟨eq, rfl, HN.out, rfl⟩
          · have HN : Hid (∀ x ∈ ps.drop j, lt nm x.nm = true) := by
              rw [List.drop_of_length_le (by rw [HO.out.2]; omega)]
              intro x hx
              simp at hx
            go_wp2_with fail
            go_meet
            exact ⟨false, rfl, fun _ => HN.out, rfl⟩
        case rest =>
          obtain ⟨eq, rfl, HE, rfl⟩ := hcut
          cases eq with
          | true =>
            go_wp2_with fail
            go_roundw
            case rel => exact ⟨k + 1, m, ps, vo, vc, by omega, by go_num, hm6, HO.out, HS2.out.1⟩
            case measure => simp [intOf]; omega
          | false =>
            have HBS := hideIt (fun W => bent_any xs0 0 20 W HXI.out.1 (by omega) (by omega) (by omega))
            have HBW := hideIt (fun W => bent_any xw 0 20 W HXI.out.2.1 (by omega) (by omega) (by omega))
            have HBF := hideIt (fun W => bent_any xf 0 999 W HXI.out.2.2 (by omega) (by omega) (by omega))
            obtain ⟨e0, e1, e2, e3, ze⟩ := blk4 (Below.refl _ w2) HS2.out.2.2.1 HS2.out.2.1
            go_upto_region 11 with fail
            go_cut [8] (fun pv wx => ∃ q : Pl, pv = .pointer (some ⟨w2.heap.size, 0, none⟩) ∧ Hid (Okp q ∧ q.nm = nm) ∧ w2.drew.alloc (bPl q) = wx)
            case first =>
              have HNM2 := hideIt HS2.out.2.2.2
              have n1 := World.new_ne w2 _ e1
              have n2 := World.new_ne w2 _ e2
              have n3 := World.new_ne w2 _ e3
              clear HR HX HO HS HS2 HJ HE HXI e0 ze c0 c1 cz
              go_region_held3 (fun w' => w'.cell? ⟨wr.heap.size, 1, none⟩ = some (.int .i64 xs0) ∧ w'.cell? ⟨wr.heap.size, 2, none⟩ = some (.int .i64 xw) ∧ w'.cell? ⟨wr.heap.size, 3, none⟩ = some (.int .i64 xf)) (go_keep)
                (first
                | (go_at_call_of 58 (Value.int .i64 xs0); refine (HBS.out _).mono ?_; rintro e w9 ⟨⟨v, hv1, hv2, rfl⟩, rfl⟩)
                | (go_at_call_of 58 (Value.int .i64 xw); refine (HBW.out _).mono ?_; rintro e w9 ⟨⟨v, hv1, hv2, rfl⟩, rfl⟩)
                | (go_at_call_of 58 (Value.int .i64 xf); refine (HBF.out _).mono ?_; rintro e w9 ⟨⟨v, hv1, hv2, rfl⟩, rfl⟩))
              all_goals
                go_wp2_with fail
                go_meet
                exact ⟨⟨nm, _, _, _⟩, rfl, ⟨⟨HNM2.out, by assumption, by assumption, by assumption, by assumption, by assumption, by assumption⟩, rfl⟩, rfl⟩
            case rest =>
              obtain ⟨q, rfl, HQ, rfl⟩ := hcut
              have HS3 : Hid (BS w b (.slice (some ⟨bl, off, none⟩) n cap) r (.slice vo m vc) m ps (w2.drew.alloc (bPl q))) := HS2.out.1.nx (nx_trans (Below.refl _ _).drew (nx_alloc _ _))
              have HQB : Hid ((w2.drew.alloc (bPl q)).heap[w2.heap.size]? = some (bPl q) ∧ w2.heap.size < (w2.drew.alloc (bPl q)).heap.size) := ⟨heap_alloc_at _ _ rfl, by simp⟩
              obtain ⟨w3, hw3⟩ : ∃ w3, w2.drew.alloc (bPl q) = w3 := ⟨_, rfl⟩
              rw [hw3] at HS3 HQB ⊢
              clear hw3 HS2 e0 e1 e2 e3 ze c0 c1 cz HBS HBW HBF
              obtain ⟨nm', qs, qw, qf⟩ := q
              obtain ⟨b2, hb2⟩ : ∃ b2, w2.heap.size = b2 := ⟨_, rfl⟩
              rw [hb2] at HQB ⊢
              clear hb2
              obtain ⟨e0, e1, e2, e3, ze⟩ := blk4 (Below.refl _ w3) HQB.out.2 HQB.out.1
              obtain ⟨c0, c1, cz⟩ := blk2 HS3.out.h2
              have hvo : (vo = none ∧ m = 0 ∧ vc = 0) ∨ ∃ g, vo = some ⟨g, 0, none⟩ := by
                rcases HS3.out.own.2 with ⟨h, h'⟩ | ⟨g, cp, cur, h, _⟩
                · simp only [Value.slice.injEq] at h
                  exact .inl ⟨h.1, h', h.2.2⟩
                · simp only [Value.slice.injEq] at h
                  exact .inr ⟨g, h.1⟩
              obtain ⟨qq, hqq⟩ : ∃ qq : Pl, qq = ⟨nm', qs, qw, qf⟩ := ⟨_, rfl⟩
              have HEND : Hid (∀ (v' : Value) (W : World), W.ownsRow w3.heap.size 75 4 v' (m + 1) (flatP (ps.take j ++ [qq] ++ ps.drop j)) → Below w3.heap.size w3 W → Okt r (ps.take j ++ [qq] ++ ps.drop j) ∧ (ps.take j ++ [qq] ++ ps.drop j).length = m + 1 ∧ BS w b (.slice (some ⟨bl, off, none⟩) n cap) r v' (m + 1) (ps.take j ++ [qq] ++ ps.drop j) (W.setCell ⟨w.heap.size + 2, 1, none⟩ v')) := by
                intro v' W hown hbW
                have hl : (ps.take j ++ [qq] ++ ps.drop j).length = m + 1 := by
                  simp; have := HO.out.2; omega
                rw [← hqq] at HQ
                have hq := HQ.out.1
                have hqn := HQ.out.2
                refine ⟨⟨hr1, hr2, by rw [hl]; omega, ?_, ?_⟩, hl, (HS3.out.nx hbW).put hown HS3.out.sz⟩
                · intro x hx
                  rcases List.mem_append.1 hx with hx | hx
                  · rcases List.mem_append.1 hx with hx | hx
                    · exact HO.out.1.ok x (List.mem_of_mem_take hx)
                    · simp at hx; subst hx; exact hq
                  · exact HO.out.1.ok x (List.mem_of_mem_drop hx)
                · have := put_up (p := qq) HO.out.1.up (by rw [hqn]; exact HJ.out.1) (by rw [hqn]; exact HE.out rfl)
                  simpa using this
              have HQQ := hideIt hqq
              clear hqq
              rcases hvo with ⟨rfl, rfl, rfl⟩ | ⟨g, rfl⟩
              · obtain rfl : j = 0 := by omega
                go_wp2_with (at_builtin; refine append_row rfl (.tmp 78) (.tmp 82) rfl w3.heap.size (.slice none 0 0) 0 [] rfl (World.ownsRow_nil _ _ _ _) none 0 0 [] rfl rfl (row_nil _ _ _) (fun _ => rfl) (by omega) (Nat.le_refl _) ?an)
                case an =>
                  intro v1 w4 hown1 hb4
                  have H4 : Hid (w4.ownsRow w3.heap.size 75 4 v1 0 (flatP []) ∧ Below w3.heap.size w3 w4) := ⟨by simpa using hown1, hb4⟩
                  obtain ⟨f0, f1, f2, f3, zf⟩ := blk4 hb4 HQB.out.2 HQB.out.1
                  clear hown1 hb4 e0 e1 e2 e3 ze c0 c1 cz
                  go_wp2_with (at_builtin; refine append_row rfl (.tmp 84) (.tmp 86) rfl w3.heap.size _ 0 [] rfl (H4.out.1.alloc _) (some ⟨w4.heap.size, 0, none⟩) 1 1 [⟨nm', qs, qw, qf⟩] rfl rfl (row_new w4 (flatP [⟨nm', qs, qw, qf⟩]) _ 1 rfl) (fun h => by cases h) (by omega) (by simp; exact Nat.le_trans H4.out.2.size (by omega)) ?an2)
                  case an2 =>
                    intro v2 w5 hown2 hb5
                    obtain rfl : ps = [] := List.length_eq_zero_iff.1 HO.out.2
                    have H5 : Hid (w5.ownsRow w3.heap.size 75 4 v2 1 (flatP ([] ++ [qq])) ∧ Below w3.heap.size w3 w5) := ⟨by rw [HQQ.out]; exact hown2, (H4.out.2.alloc H4.out.2.size _).trans hb5⟩
                    obtain ⟨c0, c1, cz⟩ := blk2 (HS3.out.nx H5.out.2).h2
                    clear hown2 hb5 f0 f1 f2 f3 zf
                    go_wp2_with (at_builtin; refine append_row rfl (.tmp 88) (.tmp 92) rfl w3.heap.size _ 1 ([] ++ [qq]) rfl H5.out.1 none 0 0 [] rfl rfl (row_nil _ _ _) (fun _ => rfl) (by omega) (H5.out.2.size) ?an3)
                    case an3 =>
                      intro v3 w6 hown3 hb6
                      obtain ⟨hk1, hk2, hk3⟩ := HEND.out v3 w6 hown3 (H5.out.2.trans hb6)
                      obtain ⟨vo3, vc3, rfl, _⟩ := own_row hown3
                      have HK : Hid (Okt r ([].take 0 ++ [qq] ++ [].drop 0) ∧ ([].take 0 ++ [qq] ++ [].drop 0).length = 0 + 1) := ⟨hk1, hk2⟩
                      have HK3 := hideIt hk3
                      obtain ⟨d0, d1, dz⟩ := blk2 (HS3.out.nx (H5.out.2.trans hb6)).h2
                      clear hown3 hb6 hk1 hk2 hk3 c0 c1 cz
                      go_wp2_with fail
                      go_roundw
                      case rel => exact ⟨k + 1, 1, _, vo3, vc3, by omega, by go_num, by omega, HK.out, HK3.out⟩
                      case measure => simp [intOf]; omega
              · have HRP := hideIt (own_row HS3.out.own)
                have hvc : m ≤ vc := row_len HRP.out
                have hjvc : j ≤ vc := by omega
                go_wp2_with (at_builtin; refine append_row rfl (.tmp 78) (.tmp 82) rfl w3.heap.size (.slice none 0 0) 0 [] rfl (World.ownsRow_nil _ _ _ _) (some ⟨g, 0, none⟩) j vc (ps.take j) rfl (by rw [List.length_take, HO.out.2]; omega) (row_takeP HRP.out HO.out.2 hj) (fun h => by cases h) (by omega) (Nat.le_refl _) ?an)
                case an =>
                  intro v1 w4 hown1 hb4
                  have H4 : Hid (w4.ownsRow w3.heap.size 75 4 v1 j (flatP (ps.take j)) ∧ Below w3.heap.size w3 w4) := ⟨by simpa using hown1, hb4⟩
                  obtain ⟨f0, f1, f2, f3, zf⟩ := blk4 hb4 HQB.out.2 HQB.out.1
                  clear hown1 hb4 e0 e1 e2 e3 ze c0 c1 cz
                  go_wp2_with (at_builtin; refine append_row rfl (.tmp 84) (.tmp 86) rfl w3.heap.size _ j (ps.take j) rfl (H4.out.1.alloc _) (some ⟨w4.heap.size, 0, none⟩) 1 1 [⟨nm', qs, qw, qf⟩] rfl rfl (row_new w4 (flatP [⟨nm', qs, qw, qf⟩]) _ 1 rfl) (fun h => by cases h) (by omega) (by simp; exact Nat.le_trans H4.out.2.size (by omega)) ?an2)
                  case an2 =>
                    intro v2 w5 hown2 hb5
                    have H5 : Hid (w5.ownsRow w3.heap.size 75 4 v2 (j + 1) (flatP (ps.take j ++ [qq])) ∧ Below w3.heap.size w3 w5) := ⟨by rw [HQQ.out]; exact hown2, (H4.out.2.alloc H4.out.2.size _).trans hb5⟩
                    obtain ⟨c0, c1, cz⟩ := blk2 (HS3.out.nx H5.out.2).h2
                    clear hown2 hb5 f0 f1 f2 f3 zf
                    have HD := hideIt (row_dropP (own_row (HS3.out.nx H5.out.2).own) HO.out.2 hj)
                    by_cases hcj : vc = j
                    · rw [if_pos hcj, hcj, Nat.sub_self] at HD
                      go_wp2_with (at_builtin; refine append_row rfl (.tmp 88) (.tmp 92) rfl w3.heap.size _ (j + 1) (ps.take j ++ [qq]) rfl H5.out.1 (some ⟨g, 0, none⟩) (m - j) 0 (ps.drop j) rfl (by rw [List.length_drop, HO.out.2]) HD.out (fun h => by cases h) (by omega) (H5.out.2.size) ?an3)
                      case an3 =>
                        intro v3 w6 hown3 hb6
                        have hown3' : w6.ownsRow w3.heap.size 75 4 v3 (m + 1) (flatP (ps.take j ++ [qq] ++ ps.drop j)) := by
                          rw [show m + 1 = j + 1 + (m - j) by omega, List.append_assoc, List.singleton_append]; exact hown3
                        obtain ⟨hk1, hk2, hk3⟩ := HEND.out v3 w6 hown3' (H5.out.2.trans hb6)
                        obtain ⟨vo3, vc3, rfl, _⟩ := own_row hown3'
                        have HK : Hid (Okt r (ps.take j ++ [qq] ++ ps.drop j) ∧ (ps.take j ++ [qq] ++ ps.drop j).length = m + 1) := ⟨hk1, hk2⟩
                        have HK3 := hideIt hk3
                        obtain ⟨d0, d1, dz⟩ := blk2 (HS3.out.nx (H5.out.2.trans hb6)).h2
                        clear hown3 hown3' hb6 hk1 hk2 hk3 c0 c1 cz
                        go_wp2_with fail
                        go_roundw
                        case rel => exact ⟨k + 1, m + 1, _, vo3, vc3, by omega, by go_num, by omega, HK.out, HK3.out⟩
                        case measure => simp [intOf]; omega
                    · rw [if_neg hcj] at HD
                      go_wp2_with (at_builtin; refine append_row rfl (.tmp 88) (.tmp 92) rfl w3.heap.size _ (j + 1) (ps.take j ++ [qq]) rfl H5.out.1 _ _ _ (ps.drop j) rfl (by rw [List.length_drop, HO.out.2]) (by simpa using HD.out) (fun h => by cases h) (by omega) (H5.out.2.size) ?an3)
                      case an3 =>
                        intro v3 w6 hown3 hb6
                        have hown3' : w6.ownsRow w3.heap.size 75 4 v3 (m + 1) (flatP (ps.take j ++ [qq] ++ ps.drop j)) := by
                          rw [show m + 1 = j + 1 + (m - j) by omega, List.append_assoc, List.singleton_append]; exact hown3
                        obtain ⟨hk1, hk2, hk3⟩ := HEND.out v3 w6 hown3' (H5.out.2.trans hb6)
                        obtain ⟨vo3, vc3, rfl, _⟩ := own_row hown3'
                        have HK : Hid (Okt r (ps.take j ++ [qq] ++ ps.drop j) ∧ (ps.take j ++ [qq] ++ ps.drop j).length = m + 1) := ⟨hk1, hk2⟩
                        have HK3 := hideIt hk3
                        obtain ⟨d0, d1, dz⟩ := blk2 (HS3.out.nx (H5.out.2.trans hb6)).h2
                        clear hown3 hown3' hb6 hk1 hk2 hk3 c0 c1 cz
                        go_wp2_with fail
                        go_roundw
                        case rel => exact ⟨k + 1, m + 1, _, vo3, vc3, by omega, by go_num, by omega, HK.out, HK3.out⟩
                        case measure => simp [intOf]; omega
    · by_cases hkn : k < n
      · have hm6' : ¬ m < 6 := by omega
        go_wp2_with fail
        refine bodyPost_ret (v := .agg #[.int .i64 r, .slice vo m vc]) (by simp [results, Tryz.results28, go_sem, b0, b1]) rfl ⟨r, ps, vo, vc, HO.out.1, by rw [HO.out.2], ?_, ?_⟩
        · rw [HO.out.2]
          exact own_mono (ownsRow_setCell_below (ownsRow_setCell_below HS.out.own (by show w.heap.size + 1 < _; omega) _) (by show w.heap.size + 1 < _; omega) _) (by omega)
        · exact (HS.out.bel.setCell (by show w.heap.size ≤ w.heap.size + 1; omega) _).setCell (by show w.heap.size ≤ w.heap.size + 1; omega) _
      · go_wp2_with fail
        refine bodyPost_ret (v := .agg #[.int .i64 r, .slice vo m vc]) (by simp [results, Tryz.results28, go_sem, b0, b1]) rfl ⟨r, ps, vo, vc, HO.out.1, by rw [HO.out.2], ?_, ?_⟩
        · rw [HO.out.2]
          exact own_mono (ownsRow_setCell_below (ownsRow_setCell_below HS.out.own (by show w.heap.size + 1 < _; omega) _) (by show w.heap.size + 1 < _; omega) _) (by omega)
        · exact (HS.out.bel.setCell (by show w.heap.size ≤ w.heap.size + 1; omega) _).setCell (by show w.heap.size ≤ w.heap.size + 1; omega) _
end Co
end Go.Proofs.YtohbonfngeblkaaGreat
namespace Go.Proofs.YtohbonfngeblkaaGreat
open Go.RowKit
namespace Co
theorem last_mem {ps : List Pl} (h : ps ≠ []) : ∃ q ∈ ps, q.nm = lastN ps := by
  unfold lastN
  rw [List.getLast?_eq_some_getLast h]
  exact ⟨_, List.getLast_mem h, rfl⟩
end Co
end Go.Proofs.YtohbonfngeblkaaGreat
