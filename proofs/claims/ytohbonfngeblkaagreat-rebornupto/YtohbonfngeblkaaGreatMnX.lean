import Derived.Test.YtohbonfngeblkaaGreatMnV
import Derived.Test.YtohbonfngeblkaaGreatMnW
import Derived.BigQuiet
namespace Go.Proofs.YtohbonfngeblkaaGreat
open Go.RowKit
namespace Co
def textN (st : Sty) (last : ByteArray) (b : Int) (ps : List Pl) : List (List (List UInt8) × Ln) := (fsBud st b, lnBud b) :: ps.flatMap (grp st last)
def textL (st : Sty) (last : ByteArray) (b : Int) (ps : List Pl) : List UInt8 := ((textN st last b ps).map Prod.fst).flatMap (lineL st)
theorem textN_snd (st : Sty) (last : ByteArray) (b : Int) (ps : List Pl) : (textN st last b ps).map Prod.snd = allN st last b ps := by
  unfold textN allN
  rw [List.map_cons, List.map_flatMap]
  rfl
theorem textN_of (st : Sty) {last : ByteArray} {b : Int} {ps : List Pl} (hb : b ≤ 99) (hok : ∀ p ∈ ps, Okp p) (hl : ∀ p ∈ ps, isNm last = true) : ∀ x ∈ textN st last b ps, LnOf x.1 x.2 := by
  intro x hx
  rcases List.mem_cons.1 hx with rfl | hx
  · exact ⟨by simp [fsBud], gd_bud st hb, prs_bud st hb, rfl⟩
  · obtain ⟨p, hp, hx⟩ := List.mem_flatMap.1 hx
    have h1 : LnOf (fsPool st p) (lnPool st p) := ⟨by unfold fsPool; cases st.b7 <;> simp, gd_pool st (hok p hp), prs_pool st (hok p hp), rfl⟩
    have h2 : LnOf (fsFrom st p) (lnFrom p) := ⟨by simp [fsFrom], gd_from st (hok p hp), prs_from st (hok p hp), rfl⟩
    have h3 : LnOf (fsBase st last p) (lnBase st last p) := ⟨by unfold fsBase; cases frB st last p <;> simp, gd_base st (hl p hp) (hok p hp), prs_base st (hl p hp) (hok p hp), rfl⟩
    unfold grp at hx
    cases h5 : st.b5 <;> rw [h5] at hx
    · simp at hx; subst hx; exact h1
    · cases h8 : st.b8 <;> rw [h8] at hx <;> simp at hx <;> rcases hx with rfl | rfl <;> assumption
theorem joinL_len (st : Sty) : ∀ fs : List (List UInt8), (joinL st fs).length ≤ (fs.map fun f => f.length + 2).sum
  | [] => by simp [joinL]
  | f :: r => by
    have := joinL_len st r
    have h : (sepL st).length ≤ 2 := by unfold sepL; cases st.b1 <;> simp
    simp only [joinL, List.length_append, List.map_cons, List.sum_cons]
    omega
theorem line_len (st : Sty) (fs : List (List UInt8)) : (lineL st fs).length ≤ (fs.map fun f => f.length + 2).sum + 6 := by
  have h1 : (padL st).length ≤ 2 := by unfold padL; cases st.b0 <;> simp
  have h2 : (endL st).length ≤ 1 := by unfold endL; cases st.b2 <;> simp
  have h3 : (moreL st).length ≤ 2 := by unfold moreL; cases st.b3 <;> simp
  have h4 : (joinF st fs).length ≤ (fs.map fun f => f.length + 2).sum := by
    cases fs with
    | nil => simp [joinF]
    | cons f r =>
      have := joinL_len st r
      simp only [joinF, List.length_append, List.map_cons, List.sum_cons]
      omega
  simp only [lineL, bodyL, List.length_append, List.length_cons]
  omega
theorem nm_len {s : ByteArray} (h : isNm s = true) : s.size ≤ 8 := by
  unfold isNm at h
  simp only [Bool.and_eq_true, decide_eq_true_eq] at h
  omega
theorem grp_len (st : Sty) {last : ByteArray} {p : Pl} (h : Okp p) (hl : isNm last = true) : (((grp st last p).map Prod.fst).flatMap (lineL st)).length ≤ 130 := by
  have hn := nm_len h.nm
  have hn2 := nm_len hl
  have d1 := lenD st (n := p.sz) (by have := h.s1; omega)
  have d2 := lenD st (n := p.wt) (by have := h.w1; omega)
  have d3 := lenD st (n := p.fr) h.f1
  have l1 := line_len st (fsPool st p)
  have l2 := line_len st (fsFrom st p)
  have l3 := line_len st (fsBase st last p)
  have m1 : ((fsPool st p).map fun f => f.length + 2).sum ≤ 60 := by
    unfold fsPool
    cases st.b7 <;> simp <;> omega
  have m2 : ((fsFrom st p).map fun f => f.length + 2).sum ≤ 57 := by
    simp [fsFrom]; omega
  have m3 : ((fsBase st last p).map fun f => f.length + 2).sum ≤ 56 := by
    unfold fsBase
    cases frB st last p <;> simp <;> omega
  unfold grp
  cases st.b5 <;> cases st.b8 <;> simp <;> omega
theorem text_len (st : Sty) {last : ByteArray} {b : Int} {ps : List Pl} (hb : b ≤ 99) (hok : ∀ p ∈ ps, Okp p) (hl : ∀ p ∈ ps, isNm last = true) : (textL st last b ps).length ≤ 30 + 130 * ps.length := by
  have key : ∀ qs : List Pl, (∀ p ∈ qs, Okp p ∧ isNm last = true) → (((qs.flatMap (grp st last)).map Prod.fst).flatMap (lineL st)).length ≤ 130 * qs.length := by
    intro qs
    induction qs with
    | nil => simp
    | cons q r ih =>
      intro h
      have h1 := grp_len st (h q List.mem_cons_self).1 (h q List.mem_cons_self).2
      have h2 := ih (fun x hx => h x (List.mem_cons_of_mem _ hx))
      rw [List.flatMap_cons, List.map_append, List.flatMap_append, List.length_append, List.length_cons]
      omega
  have h1 := key ps (fun p hp => ⟨hok p hp, hl p hp⟩)
  have h2 := line_len st (fsBud st b)
  have d := lenD st (n := b) (by omega)
  have h3 : ((fsBud st b).map fun f => f.length + 2).sum ≤ 14 := by simp [fsBud]; omega
  unfold textL textN
  rw [List.map_cons, List.flatMap_cons, List.length_append]
  show (lineL st (fsBud st b)).length + _ ≤ _
  omega
theorem inj_of : ∀ ps : List Pl, ps.Pairwise (fun a b => a.nm ≠ b.nm) → ∀ x ∈ ps, ∀ y ∈ ps, x.nm = y.nm → x = y
  | [], _, x, hx, _, _, _ => by simp at hx
  | p :: r, h, x, hx, y, hy, e => by
    have h1 := (List.pairwise_cons.1 h).1
    rcases List.mem_cons.1 hx with ex | hx1
    · rcases List.mem_cons.1 hy with ey | hy1
      · rw [ex, ey]
      · exact absurd (by rw [← ex, e]) (h1 y hy1)
    · rcases List.mem_cons.1 hy with ey | hy1
      · exact absurd (by rw [← ey, e]) (h1 x hx1)
      · exact inj_of r (List.pairwise_cons.1 h).2 x hx1 y hy1 e
theorem ans_text (st : Sty) (last : ByteArray) {b : Int} {ps : List Pl} (h : Okt b ps) (hlast : ps ≠ [] → ∃ q ∈ ps, q.nm = last) (s : ByteArray) (hs : tl s = textL st last b (ordP st ps)) :
    ans s = ⟨(b, ps), 0, 0⟩ ∧ s.size ≤ 1000 := by
  have hok : ∀ p ∈ ordP st ps, Okp p := fun p hp => h.ok p (mem_ord.1 hp)
  have hlast2 : ∀ p ∈ ordP st ps, ∃ q ∈ ordP st ps, q.nm = last := by
    intro p hp
    have hp := mem_ord.1 hp
    obtain ⟨q, hq, e⟩ := hlast (fun e => by rw [e] at hp; simp at hp)
    exact ⟨q, mem_ord.2 hq, e⟩
  have hl : ∀ p ∈ ordP st ps, isNm last = true := by
    intro p hp
    obtain ⟨q, hq, e⟩ := hlast2 p hp
    rw [← e]; exact (hok q hq).nm
  have hne : ps.Pairwise (fun a b => a.nm ≠ b.nm) := h.up.imp (fun h => lt_ne h)
  have hne2 : (ordP st ps).Pairwise (fun a b => a.nm ≠ b.nm) := by
    unfold ordP
    cases st.b9
    · exact hne
    · simp only [if_true]
      rw [List.pairwise_reverse]
      exact hne.imp (fun h => h.symm)
  have hinj : ∀ p ∈ ordP st ps, ∀ q ∈ ordP st ps, p.nm = q.nm → p = q :=
    fun p hp q hq e => inj_of ps hne p (mem_ord.1 hp) q (mem_ord.1 hq) e
  have hlen : (ordP st ps).length ≤ 6 := by
    unfold ordP
    have := h.len
    cases st.b9 <;> simp <;> omega
  have hsz : s.size ≤ 1000 := by
    have := text_len st (b := b) h.b1 hok hl
    rw [← tl_len, hs]; omega
  have hoA : okA [] (allN st last b (ordP st ps)) := by
    refine ⟨ok_bud h.b0 h.b1, ok_pools st last _ _ (by simp) hne2 ?_ ?_ ?_ hok⟩
    · intro l hl p _ hk
      simp at hl
      subst hl
      simp [lnBud] at hk
    · simp [cntC, lnBud]; omega
    · simp [cntC, lnBud]; omega
  obtain ⟨ls, h1, h2⟩ := rd_text st s (textN st last b (ordP st ps)) hs (textN_of st h.b1 hok hl) (by rw [textN_snd]; exact hoA) (by simp [textN])
  rw [textN_snd] at h2
  have hch := chains (b := b) hok hinj hlast2 (st := st)
  have hch2 : ∀ l ∈ ls, baC ls l.frm = true ∧ (chC ls 7 l.frm).length ≤ 3 := by
    intro l hl
    have := hch (np l) (by rw [← h2]; exact List.mem_map_of_mem hl)
    rw [← h2, ← ch_np, List.length_map] at this
    unfold baC at this ⊢
    rw [← find_np, Option.isSome_map] at this
    exact this
  have hE : chE ls = (0, 0) := by
    unfold chE
    rw [no_none ls ls (fun l hl => (hch2 l hl).1), lon_zero ls 6 ls (fun l hl => Nat.le_trans (hch2 l hl).2 (by omega)), lon_zero ls 3 ls (fun l hl => (hch2 l hl).2)]
    simp
  have hT : tabC ls = (b, ps) := by rw [← tab_np, h2, tab_all st last h hinj hlast2]
  refine ⟨?_, hsz⟩
  unfold ans
  rw [if_neg (by omega), h1]
  simp only [ne_eq, not_true_eq_false, if_false, hE, hT]
end Co
end Go.Proofs.YtohbonfngeblkaaGreat
namespace Go.Proofs.YtohbonfngeblkaaGreat
open Go.RowKit
namespace Co
theorem line_new (fs : List ByteArray) (style : Int) (w : World) (n g : Nat) (hg : g = w.heap.size) (hn : fs.length = n) (hn8 : n ≤ 8) (hsm : ∀ f ∈ fs, f.size ≤ 1000) (hst : I64 style) :
    Calls Tryz.prog 51 #[.slice (some ⟨g, 0, none⟩) n n, .int .i64 style] (w.alloc (.cells (strs fs).toArray 9)) fun e w' => (∃ s, tl s = lineL (stOf style) (fs.map tl) ∧ e = .returned (.string s)) ∧ w' = w.alloc (.cells (strs fs).toArray 9) :=
  line_any (some ⟨g, 0, none⟩) n n fs style _ (row_new w (strs fs) _ n hg) hn hn8 hsm hst
theorem sm8 {a b c d e f g h : ByteArray} (h1 : a.size ≤ 8) (h2 : b.size ≤ 8) (h3 : c.size ≤ 8) (h4 : d.size ≤ 8) (h5 : e.size ≤ 8) (h6 : f.size ≤ 8) (h7 : g.size ≤ 8) (h8 : h.size ≤ 8) : ∀ x ∈ [a, b, c, d, e, f, g, h], x.size ≤ 1000 := by
  intro x hx
  simp only [List.mem_cons, List.not_mem_nil, or_false] at hx
  rcases hx with rfl | rfl | rfl | rfl | rfl | rfl | rfl | rfl <;> omega
theorem sm4 {a b c d : ByteArray} (h1 : a.size ≤ 8) (h2 : b.size ≤ 8) (h3 : c.size ≤ 8) (h4 : d.size ≤ 8) : ∀ x ∈ [a, b, c, d], x.size ≤ 1000 := by
  intro x hx
  simp only [List.mem_cons, List.not_mem_nil, or_false] at hx
  rcases hx with rfl | rfl | rfl | rfl <;> omega
theorem smw : (mk wBudget).size ≤ 8 ∧ (mk wBase).size ≤ 8 ∧ (mk wPool).size ≤ 8 ∧ (mk wFrom).size ≤ 8 ∧ (mk wSize).size ≤ 8 ∧ (mk wWait).size ≤ 8 ∧ (mk wFar).size ≤ 8 ∧ (mk [51]).size ≤ 8 := by decide
abbrev zPool : ByteArray := ⟨#[112, 111, 111, 108]⟩
abbrev zBase : ByteArray := ⟨#[98, 97, 115, 101]⟩
abbrev zFrom : ByteArray := ⟨#[102, 114, 111, 109]⟩
abbrev cells8 (a b c d e f g h : ByteArray) : Obj := .cells #[.string a, .string b, .string c, .string d, .string e, .string f, .string g, .string h] 9
abbrev cells4 (a b c d : ByteArray) : Obj := .cells #[.string a, .string b, .string c, .string d] 9
def grpL (st : Sty) (last : ByteArray) (p : Pl) : List UInt8 := ((grp st last p).map Prod.fst).flatMap (lineL st)
set_option maxRecDepth 20000 in
set_option maxHeartbeats 2000000 in
theorem pool_any (p : Pl) (last : ByteArray) (style : Int) (w : World) (hp : Okp p) (hl : last.size ≤ 8) (hst : I64 style) :
    Calls Tryz.prog 53 #[plA p, .string last, .int .i64 style] w fun e w' => (∃ s, tl s = grpL (stOf style) last p ∧ e = .returned (.string s)) ∧ Below w.heap.size w w' := by
  have HST := hideIt hst
  have hnm := nm_len hp.nm
  obtain ⟨nm, sz, wt, fr⟩ := p
  obtain ⟨_, s0, s1, w0, w1, f0, f1⟩ := hp
  simp only at s0 s1 w0 w1 f0 f1 hnm
  obtain ⟨a, rfl⟩ : ∃ a : Nat, sz = a := ⟨sz.toNat, by omega⟩
  obtain ⟨b, rfl⟩ : ∃ b : Nat, wt = b := ⟨wt.toNat, by omega⟩
  obtain ⟨c, rfl⟩ : ∃ c : Nat, fr = c := ⟨fr.toNat, by omega⟩
  obtain ⟨h1, h2⟩ := hst
  obtain ⟨b4, hb4⟩ : ∃ x, bt (style / 16) = x := ⟨_, rfl⟩
  have hb4' : (bits BinOp.and IntKind.i64 (style / 16) 1 == 1) = b4 := hb4
  have HD1 := hideIt (digits_any a b4 (w.alloc (bPl ⟨nm, a, b, c⟩)) (by omega))
  have HS4 : Hid ((stOf style).b4 = b4) := hb4
  obtain ⟨st, hsty⟩ : ∃ st, stOf style = st := ⟨_, rfl⟩
  rw [hsty] at HS4 ⊢
  have HSTY := hideIt hsty
  clear hb4 hsty
  go_enter Tryz.func53, Tryz.ntmps53
  go_wp2_with fail
  refine HD1.out.mono ?_
  rintro e wa ⟨⟨sa, hsa, rfl⟩, hba⟩
  have KA : Hid (tl sa = fltD st (a : Int) ∧ Below w.heap.size w wa ∧ wa.heap[w.heap.size]? = some (bPl ⟨nm, a, b, c⟩) ∧ w.heap.size < wa.heap.size) := by
    refine ⟨by rw [hsa, fltD, HS4.out, Int.toNat_natCast], nx_trans (nx_alloc _ _) hba, (hba.block _ (by simp)).trans (heap_alloc_at _ _ rfl), sz_lt hba⟩
  have hsa8 : sa.size ≤ 4 := by
    rw [← tl_len, KA.out.1]; exact lenD st (by omega)
  clear hba hsa HD1
  have HD2 := hideIt (digits_any b b4 wa (by omega))
  obtain ⟨e0, e1, e2, e3, ze⟩ := blk4 (Below.refl _ wa) KA.out.2.2.2 KA.out.2.2.1
  go_wp2_with fail
  refine HD2.out.mono ?_
  rintro e wb ⟨⟨sb, hsb, rfl⟩, hbb⟩
  have KB : Hid (tl sb = fltD st (b : Int) ∧ Below w.heap.size w wb ∧ wb.heap[w.heap.size]? = some (bPl ⟨nm, a, b, c⟩) ∧ w.heap.size < wb.heap.size) := by
    refine ⟨by rw [hsb, fltD, HS4.out, Int.toNat_natCast], nx_trans KA.out.2.1 hbb, (hbb.block _ KA.out.2.2.2).trans KA.out.2.2.1, Nat.lt_of_lt_of_le KA.out.2.2.2 hbb.size⟩
  have hsb8 : sb.size ≤ 4 := by
    rw [← tl_len, KB.out.1]; exact lenD st (by omega)
  clear hbb hsb HD2 e0 e1 e2 e3 ze
  have HD3 := hideIt (digits_any c b4 wb (by omega))
  obtain ⟨e0, e1, e2, e3, ze⟩ := blk4 (Below.refl _ wb) KB.out.2.2.2 KB.out.2.2.1
  go_wp2_with fail
  refine HD3.out.mono ?_
  rintro e wc ⟨⟨sc, hsc, rfl⟩, hbc⟩
  have KC : Hid (tl sc = fltD st (c : Int) ∧ Below w.heap.size w wc ∧ wc.heap[w.heap.size]? = some (bPl ⟨nm, a, b, c⟩) ∧ w.heap.size < wc.heap.size) := by
    refine ⟨by rw [hsc, fltD, HS4.out, Int.toNat_natCast], nx_trans KB.out.2.1 hbc, (hbc.block _ KB.out.2.2.2).trans KB.out.2.2.1, Nat.lt_of_lt_of_le KB.out.2.2.2 hbc.size⟩
  have hsc8 : sc.size ≤ 4 := by
    rw [← tl_len, KC.out.1]; exact lenD st (by omega)
  clear hbc hsc HD3 e0 e1 e2 e3 ze
  obtain ⟨e0, e1, e2, e3, ze⟩ := blk4 (Below.refl _ wc) KC.out.2.2.2 KC.out.2.2.1
  have HBB : Hid (st.b5 = bt (style / 32) ∧ st.b6 = bt (style / 64) ∧ st.b7 = bt (style / 128) ∧ st.b8 = bt (style / 256)) := by
    rw [← HSTY.out]; exact ⟨rfl, rfl, rfl, rfl⟩
  clear hb4'
  obtain ⟨v1, v2, v3, v4, v5, v6, v7, v8⟩ := smw
  cases hb5 : bt (style / 32) with
  | false =>
    have hb5' : (bits BinOp.and IntKind.i64 (style / 32) 1 == 0) = true := by rw [bt_zero, hb5]; rfl
    have H5 : Hid (st.b5 = false) := by show _ = _; rw [HBB.out.1, hb5]
    clear hb5
    cases hb7 : bt (style / 128) with
    | false =>
      have hb7' : (bits BinOp.and IntKind.i64 (style / 128) 1 == 1) = false := hb7
      have H7 : Hid (st.b7 = false) := by show _ = _; rw [HBB.out.2.2.1, hb7]
      clear hb7
      have HL := hideIt (line_new [mk wPool, nm, mk wSize, sa, mk wWait, sb, mk wFar, sc] style wc 8 _ rfl rfl (Nat.le_refl _) (sm8 v3 hnm v5 (by omega) v6 (by omega) v7 (by omega)) HST.out)
      go_wp2_with fail
      refine HL.out.mono ?_
      rintro e wd ⟨⟨s, hs, rfl⟩, rfl⟩
      go_wp2_with fail
      go_ret
      refine ⟨⟨s, ?_, rfl⟩, KC.out.2.1.alloc KC.out.2.1.size _⟩
      rw [hs, HSTY.out]
      simp [grpL, grp, H5.out, fsPool, H7.out, tl_mk, KA.out.1, KB.out.1, KC.out.1]
    | true =>
      have hb7' : (bits BinOp.and IntKind.i64 (style / 128) 1 == 1) = true := hb7
      have H7 : Hid (st.b7 = true) := by show _ = _; rw [HBB.out.2.2.1, hb7]
      clear hb7
      have HL := hideIt (line_new [mk wPool, nm, mk wFar, sc, mk wSize, sa, mk wWait, sb] style (wc.alloc (cells8 zPool nm sSize sa sWait sb sFar sc)) 8 (wc.heap.size + 1) (by simp) rfl (Nat.le_refl _) (sm8 v3 hnm v7 (by omega) v5 (by omega) v6 (by omega)) HST.out)
      have e0' : (wc.alloc (cells8 zPool nm sSize sa sWait sb sFar sc)).cell? ⟨w.heap.size, 0, none⟩ = some (.string nm) := by
        rw [← e0]; exact World.cell?_of_block (heap_alloc_lt _ _ KC.out.2.2.2)
      go_wp2_with fail
      refine HL.out.mono ?_
      rintro e wd ⟨⟨s, hs, rfl⟩, rfl⟩
      go_wp2_with fail
      go_ret
      refine ⟨⟨s, ?_, rfl⟩, (KC.out.2.1.alloc KC.out.2.1.size _).alloc (by simp; have := KC.out.2.1.size; omega) _⟩
      rw [hs, HSTY.out]
      simp [grpL, grp, H5.out, fsPool, H7.out, tl_mk, KA.out.1, KB.out.1, KC.out.1]
  | true =>
    have hb5' : (bits BinOp.and IntKind.i64 (style / 32) 1 == 0) = false := by rw [bt_zero, hb5]; rfl
    have H5 : Hid (st.b5 = true) := by show _ = _; rw [HBB.out.1, hb5]
    clear hb5
    have g0 : w.heap.size < wc.heap.size := KC.out.2.2.2
    have eA : (wc.alloc (cells4 zBase nm sSize sa)).cell? ⟨w.heap.size, 0, none⟩ = some (.string nm) := by
      rw [← e0]; exact World.cell?_of_block (heap_alloc_lt _ _ g0)
    have caseA : frB st last ⟨nm, a, b, c⟩ = false → ∀ W : World, W = (wc.alloc (cells4 zBase nm sSize sa)).alloc (cells8 zPool nm zFrom nm sWait sb sFar sc) →
        Calls Tryz.prog 51 #[.slice (some ⟨wc.heap.size, 0, none⟩) 4 4, .int .i64 style] W (fun e w' => (∃ s, tl s = lineL st (fsBase st last ⟨nm, a, b, c⟩) ∧ e = .returned (.string s)) ∧ w' = W) ∧
        Calls Tryz.prog 51 #[.slice (some ⟨wc.heap.size + 1, 0, none⟩) 8 8, .int .i64 style] W (fun e w' => (∃ s, tl s = lineL st (fsFrom st ⟨nm, a, b, c⟩) ∧ e = .returned (.string s)) ∧ w' = W) ∧ Below w.heap.size w W := by
      intro hf W hW
      refine ⟨?_, ?_, ?_⟩
      · have h := line_any (some ⟨wc.heap.size, 0, none⟩) 4 4 [zBase, nm, sSize, sa] style W (by rw [hW]; exact (row_new wc (strs [zBase, nm, sSize, sa]) 9 4 rfl).nx (nx_alloc _ _)) rfl (by omega) (sm4 v2 hnm v5 (by omega)) HST.out
        rw [HSTY.out] at h
        have e : [zBase, nm, sSize, sa].map tl = fsBase st last ⟨nm, a, b, c⟩ := by
          simp [fsBase, hf, KA.out.1]
        rw [e] at h
        exact h
      · have h := line_any (some ⟨wc.heap.size + 1, 0, none⟩) 8 8 [zPool, nm, zFrom, nm, sWait, sb, sFar, sc] style W (by rw [hW]; exact row_new (wc.alloc (cells4 zBase nm sSize sa)) (strs [zPool, nm, zFrom, nm, sWait, sb, sFar, sc]) 9 8 (by simp)) rfl (by omega) (sm8 v3 hnm v4 hnm v6 (by omega) v7 (by omega)) HST.out
        rw [HSTY.out] at h
        have e : [zPool, nm, zFrom, nm, sWait, sb, sFar, sc].map tl = fsFrom st ⟨nm, a, b, c⟩ := by
          simp [fsFrom, KB.out.1, KC.out.1]
        rw [e] at h
        exact h
      · rw [hW]
        exact (KC.out.2.1.alloc KC.out.2.1.size _).alloc (by simp; have := KC.out.2.1.size; omega) _
    have HCA := hideIt caseA
    clear caseA
    have caseB : frB st last ⟨nm, a, b, c⟩ = true → ∀ W : World, W = ((wc.alloc (cells4 zBase nm sSize sa)).alloc (cells8 zBase nm zFrom last sFar ⟨#[51]⟩ sSize sa)).alloc (cells8 zPool nm zFrom nm sWait sb sFar sc) →
        Calls Tryz.prog 51 #[.slice (some ⟨wc.heap.size + 1, 0, none⟩) 8 8, .int .i64 style] W (fun e w' => (∃ s, tl s = lineL st (fsBase st last ⟨nm, a, b, c⟩) ∧ e = .returned (.string s)) ∧ w' = W) ∧
        Calls Tryz.prog 51 #[.slice (some ⟨wc.heap.size + 1 + 1, 0, none⟩) 8 8, .int .i64 style] W (fun e w' => (∃ s, tl s = lineL st (fsFrom st ⟨nm, a, b, c⟩) ∧ e = .returned (.string s)) ∧ w' = W) ∧ Below w.heap.size w W := by
      intro hf W hW
      refine ⟨?_, ?_, ?_⟩
      · have h := line_any (some ⟨wc.heap.size + 1, 0, none⟩) 8 8 [zBase, nm, zFrom, last, sFar, ⟨#[51]⟩, sSize, sa] style W (by rw [hW]; exact (row_new (wc.alloc (cells4 zBase nm sSize sa)) (strs [zBase, nm, zFrom, last, sFar, ⟨#[51]⟩, sSize, sa]) 9 8 (by simp)).nx (nx_alloc _ _)) rfl (by omega) (sm8 v2 hnm v4 hl v7 v8 v5 (by omega)) HST.out
        rw [HSTY.out] at h
        have e : [zBase, nm, zFrom, last, sFar, ⟨#[51]⟩, sSize, sa].map tl = fsBase st last ⟨nm, a, b, c⟩ := by
          simp [fsBase, hf, KA.out.1]
        rw [e] at h
        exact h
      · have h := line_any (some ⟨wc.heap.size + 1 + 1, 0, none⟩) 8 8 [zPool, nm, zFrom, nm, sWait, sb, sFar, sc] style W (by rw [hW]; exact row_new ((wc.alloc (cells4 zBase nm sSize sa)).alloc (cells8 zBase nm zFrom last sFar ⟨#[51]⟩ sSize sa)) (strs [zPool, nm, zFrom, nm, sWait, sb, sFar, sc]) 9 8 (by simp)) rfl (by omega) (sm8 v3 hnm v4 hnm v6 (by omega) v7 (by omega)) HST.out
        rw [HSTY.out] at h
        have e : [zPool, nm, zFrom, nm, sWait, sb, sFar, sc].map tl = fsFrom st ⟨nm, a, b, c⟩ := by
          simp [fsFrom, KB.out.1, KC.out.1]
        rw [e] at h
        exact h
      · rw [hW]
        exact ((KC.out.2.1.alloc KC.out.2.1.size _).alloc (by simp; have := KC.out.2.1.size; omega) _).alloc (by simp; have := KC.out.2.1.size; omega) _
    have HCB := hideIt caseB
    clear caseB
    have hfrB : ∀ x y, bt (style / 64) = x → (nm.toList == last.toList) = y → frB st last ⟨nm, a, b, c⟩ = (x && !y) := by
      intro x y hx hy
      rw [tl_toList, tl_toList] at hy
      simp only [frB, HBB.out.2.1, hx, hy]
    have HFR := hideIt hfrB
    clear hfrB
    obtain ⟨b6, hb6⟩ : ∃ x, bt (style / 64) = x := ⟨_, rfl⟩
    obtain ⟨eq, heq⟩ : ∃ x, (nm.toList == last.toList) = x := ⟨_, rfl⟩
    have HF : Hid (frB st last ⟨nm, a, b, c⟩ = (b6 && !eq)) := HFR.out b6 eq hb6 heq
    have hb6' : (bits BinOp.and IntKind.i64 (style / 64) 1 == 1) = b6 := hb6
    clear hb6 HFR
    have fin : ∀ b8, st.b8 = b8 → ∀ x y : ByteArray, tl x = lineL st (fsBase st last ⟨nm, a, b, c⟩) → tl y = lineL st (fsFrom st ⟨nm, a, b, c⟩) → tl (if b8 = true then y ++ x else x ++ y) = grpL st last ⟨nm, a, b, c⟩ := by
      intro b8 h8 x y hx hy
      unfold grpL grp
      rw [H5.out, h8]
      cases b8 <;> simp [hx, hy]
    obtain ⟨b8, hb8⟩ : ∃ x, bt (style / 256) = x := ⟨_, rfl⟩
    have HFIN := hideIt (fin b8 (by rw [HBB.out.2.2.2, hb8]))
    clear fin
    have hb8' : (bits BinOp.and IntKind.i64 (style / 256) 1 == 1) = b8 := hb8
    clear hb8
    have hgs : ∀ x y : ByteArray, tl x = lineL st (fsBase st last ⟨nm, a, b, c⟩) → tl y = lineL st (fsFrom st ⟨nm, a, b, c⟩) → ¬ 9223372036854775807 < x.size + y.size ∧ ¬ 9223372036854775807 < y.size + x.size := by
      intro x y hx hy
      rw [← tl_len, ← tl_len y, hx, hy]
      have l2 := line_len st (fsFrom st ⟨nm, a, b, c⟩)
      have l3 := line_len st (fsBase st last ⟨nm, a, b, c⟩)
      have d1 := lenD st (n := (a : Int)) (by omega)
      have d2 := lenD st (n := (b : Int)) (by omega)
      have d3 := lenD st (n := (c : Int)) (by omega)
      have m2 : ((fsFrom st ⟨nm, a, b, c⟩).map fun f => f.length + 2).sum ≤ 60 := by
        simp [fsFrom]; omega
      have m3 : ((fsBase st last ⟨nm, a, b, c⟩).map fun f => f.length + 2).sum ≤ 60 := by
        unfold fsBase
        cases frB st last ⟨nm, a, b, c⟩ <;> simp <;> omega
      omega
    have HGS := hideIt hgs
    clear hgs
    cases b6 <;> cases eq
    case true.false =>
      have eB : ((wc.alloc (cells4 zBase nm sSize sa)).alloc (cells8 zBase nm zFrom last sFar ⟨#[51]⟩ sSize sa)).cell? ⟨w.heap.size, 0, none⟩ = some (.string nm) := by
        rw [← eA]; exact World.cell?_of_block (heap_alloc_lt _ _ (by simp; omega))
      have HC := hideIt (HCB.out HF.out _ rfl)
      clear HCA HCB
      go_wp2_with fail
      refine HC.out.1.mono ?_
      rintro e wd ⟨⟨x, hx, rfl⟩, rfl⟩
      have HX := hideIt hx
      clear hx
      go_wp2_with fail
      refine HC.out.2.1.mono ?_
      rintro e wd ⟨⟨y, hy, rfl⟩, rfl⟩
      obtain ⟨q1, q2⟩ := HGS.out x y HX.out hy
      have HY := hideIt hy
      clear hy
      cases b8 <;> (go_wp2_with fail; go_ret; exact ⟨⟨_, HFIN.out x y HX.out HY.out, rfl⟩, HC.out.2.2⟩)
    all_goals
      have HC := hideIt (HCA.out HF.out _ rfl)
      clear HCA HCB
      go_wp2_with fail
      refine HC.out.1.mono ?_
      rintro e wd ⟨⟨x, hx, rfl⟩, rfl⟩
      have HX := hideIt hx
      clear hx
      go_wp2_with fail
      refine HC.out.2.1.mono ?_
      rintro e wd ⟨⟨y, hy, rfl⟩, rfl⟩
      obtain ⟨q1, q2⟩ := HGS.out x y HX.out hy
      have HY := hideIt hy
      clear hy
      cases b8 <;> (go_wp2_with fail; go_ret; exact ⟨⟨_, HFIN.out x y HX.out HY.out, rfl⟩, HC.out.2.2⟩)
end Co
end Go.Proofs.YtohbonfngeblkaaGreat
namespace Go.Proofs.YtohbonfngeblkaaGreat
open Go.RowKit
namespace Co
def lastN (ps : List Pl) : ByteArray := match ps.getLast? with | some p => p.nm | none => ⟨#[]⟩
theorem textL_eq (st : Sty) (last : ByteArray) (b : Int) (qs : List Pl) : textL st last b qs = lineL st (fsBud st b) ++ qs.flatMap (grpL st last) := by
  unfold textL textN
  rw [List.map_cons, List.flatMap_cons, List.map_flatMap, List.flatMap_assoc]
  rfl
theorem last_at {ps : List Pl} {p : Pl} {n : Nat} (hn : ps.length = n) (h : ps[n - 1]? = some p) : lastN ps = p.nm := by
  unfold lastN
  rw [List.getLast?_eq_getElem?, hn, h]
theorem ord_at {st : Sty} {ps : List Pl} {n i : Nat} (hn : ps.length = n) (hi : i < n) : (ordP st ps)[i]? = ps[if st.b9 = true then n - 1 - i else i]? := by
  unfold ordP
  cases st.b9 with
  | false => rfl
  | true => simp only [if_true]; rw [List.getElem?_reverse (by omega), hn]
theorem take_flat {α β : Type} (l : List α) (f : α → List β) {i : Nat} {x : α} (h : l[i]? = some x) : (l.take (i + 1)).flatMap f = (l.take i).flatMap f ++ f x := by
  obtain ⟨hk, e⟩ := List.getElem?_eq_some_iff.1 h
  rw [List.take_succ_eq_append_getElem hk, List.flatMap_append, e]
  simp
theorem grps_len (st : Sty) {last : ByteArray} (hl : isNm last = true) : ∀ qs : List Pl, (∀ p ∈ qs, Okp p) → (qs.flatMap (grpL st last)).length ≤ 130 * qs.length
  | [], _ => by simp
  | q :: r, h => by
    have h1 := grp_len st (h q List.mem_cons_self) hl
    have h2 := grps_len st hl r (fun x hx => h x (List.mem_cons_of_mem _ hx))
    rw [List.flatMap_cons, List.length_append, List.length_cons]
    unfold grpL at *
    omega
theorem bud_len (st : Sty) {b : Int} (h : b ≤ 99) : (lineL st (fsBud st b)).length ≤ 30 := by
  have h2 := line_len st (fsBud st b)
  have d := lenD st (n := b) (by omega)
  have h3 : ((fsBud st b).map fun f => f.length + 2).sum ≤ 14 := by simp [fsBud]; omega
  omega
theorem sm2 {a b : ByteArray} (h1 : a.size ≤ 8) (h2 : b.size ≤ 8) : ∀ x ∈ [a, b], x.size ≤ 1000 := by
  intro x hx
  simp only [List.mem_cons, List.not_mem_nil, or_false] at hx
  rcases hx with rfl | rfl <;> omega
abbrev cells2 (a b : ByteArray) : Obj := .cells #[.string a, .string b] 9
set_option maxRecDepth 20000 in
set_option maxHeartbeats 2000000 in
theorem text_any (b : Int) (ps : List Pl) (ao : Option Addr) (cap n : Nat) (style : Int) (w : World) (hr : RowAt w (.slice ao n cap) n (flatP ps)) (hn : ps.length = n) (ht : Okt b ps) (hst : I64 style) :
    Calls Tryz.prog 22 #[.agg #[.int .i64 b, .slice ao n cap], .int .i64 style] w fun e w' => (∃ s, tl s = textL (stOf style) (lastN ps) b (ordP (stOf style) ps) ∧ e = .returned (.string s)) ∧ Below w.heap.size w w' := by
  have HST := hideIt hst
  obtain ⟨h1, h2⟩ := hst
  have hb0 := ht.b0
  have hb1 := ht.b1
  have hn6 : n ≤ 6 := by rw [← hn]; exact ht.len
  have HOK := hideIt ht.ok
  obtain ⟨q, rfl⟩ : ∃ q : Nat, b = q := ⟨b.toNat, by omega⟩
  have HR : Hid (RowAt (w.alloc (bTab q (.slice ao n cap))) (.slice ao n cap) n (flatP ps) ∧ ps.length = n) := ⟨hr.nx (nx_alloc _ _), hn⟩
  clear ht hr hn
  obtain ⟨st, hsty⟩ : ∃ st, stOf style = st := ⟨_, rfl⟩
  have HBB : Hid (st.b4 = bt (style / 16) ∧ st.b9 = bt (style / 512)) := by rw [← hsty]; exact ⟨rfl, rfl⟩
  have HSTY := hideIt hsty
  rw [hsty]
  clear hsty
  obtain ⟨b4, hb4⟩ : ∃ x, bt (style / 16) = x := ⟨_, rfl⟩
  have hb4' : (bits BinOp.and IntKind.i64 (style / 16) 1 == 1) = b4 := hb4
  have HS4 : Hid (st.b4 = b4) := by show _ = _; rw [HBB.out.1, hb4]
  obtain ⟨b9, hb9⟩ : ∃ x, bt (style / 512) = x := ⟨_, rfl⟩
  have hb9' : (bits BinOp.and IntKind.i64 (style / 512) 1 == 1) = b9 := hb9
  have HS9 : Hid (st.b9 = b9) := by show _ = _; rw [HBB.out.2, hb9]
  clear hb4 hb9
  have HD := hideIt (digits_any q b4 (w.alloc (bTab q (.slice ao n cap))) (by omega))
  go_enter Tryz.func22, Tryz.ntmps22
  go_wp2_with fail
  refine HD.out.mono ?_
  rintro e wa ⟨⟨sa, hsa, rfl⟩, hba⟩
  have KA : Hid (tl sa = fltD st (q : Int) ∧ Below w.heap.size w wa ∧ wa.heap[w.heap.size]? = some (bTab q (.slice ao n cap)) ∧ w.heap.size < wa.heap.size ∧ RowAt wa (.slice ao n cap) n (flatP ps)) := by
    refine ⟨by rw [hsa, fltD, HS4.out, Int.toNat_natCast], nx_trans (nx_alloc _ _) hba, (hba.block _ (by simp)).trans (heap_alloc_at _ _ rfl), sz_lt hba, HR.out.1.nx hba⟩
  have hsa8 : sa.size ≤ 4 := by
    rw [← tl_len, KA.out.1]; exact lenD st (by omega)
  clear hba hsa HD
  have HL := hideIt (line_new [sBudget, sa] style wa 2 _ rfl rfl (by omega) (sm2 smw.1 (by omega)) HST.out)
  go_wp2_with fail
  refine HL.out.mono ?_
  rintro e wd ⟨⟨t0, ht0, rfl⟩, rfl⟩
  obtain ⟨W, hW⟩ : ∃ W, W = wa.alloc (.cells (strs [sBudget, sa]).toArray 9) := ⟨_, rfl⟩
  have KB : Hid (tl t0 = lineL st (fsBud st q) ∧ Below w.heap.size w W ∧ W.heap[w.heap.size]? = some (bTab q (.slice ao n cap)) ∧ w.heap.size < W.heap.size ∧ RowAt W (.slice ao n cap) n (flatP ps)) := by
    refine ⟨?_, ?_, ?_, ?_, ?_⟩
    · rw [ht0, HSTY.out]
      congr 1
      simp [fsBud, KA.out.1]
    · rw [hW]; exact KA.out.2.1.alloc KA.out.2.1.size _
    · rw [hW]; exact (heap_alloc_lt _ _ KA.out.2.2.2.1).trans KA.out.2.2.1
    · rw [hW]; simp; have := KA.out.2.2.2.1; omega
    · rw [hW]; exact KA.out.2.2.2.2.nx (nx_alloc _ _)
  rw [← hW]
  clear hW ht0 HL
  obtain ⟨e0, e1, ze⟩ := blk2 KB.out.2.2.1
  go_wp2_with fail
  clear e0 e1 ze
  go_loopw [5, 7] (fun o i wr => ∃ (k : Nat) (t : ByteArray), k ≤ n ∧ i = .int .i64 k ∧ o = .string t ∧ Hid (tl t = lineL st (fsBud st q) ++ ((ordP st ps).take k).flatMap (grpL st (lastN ps))) ∧ Hid (Below W.heap.size W wr)) (fun _ i _ => n - (intOf i).toNat)
  case atStart => exact ⟨0, t0, Nat.zero_le _, rfl, rfl, by show _ = _; rw [KB.out.1]; simp, Below.refl _ _⟩
  case round =>
    obtain ⟨k, t, hk, rfl, rfl, hT, hB⟩ := hrel
    have hh : wr.heap[w.heap.size]? = some (bTab q (.slice ao n cap)) := (hB.out.block _ KB.out.2.2.2.1).trans KB.out.2.2.1
    obtain ⟨e0, e1, ze⟩ := blk2 hh
    clear hh
    by_cases hlt : k < n
    · have HB9 : Hid (st.b9 = b9) := HS9
      obtain ⟨j, hj⟩ : ∃ j : Nat, (if b9 = true then n - 1 - k else k) = j := ⟨_, rfl⟩
      have hjn : j < n := by rw [← hj]; split <;> omega
      obtain ⟨p, hp⟩ : ∃ p, ps[j]? = some p := ⟨_, List.getElem?_eq_getElem (by rw [HR.out.2]; exact hjn)⟩
      obtain ⟨pl, hpl⟩ : ∃ p, ps[n - 1]? = some p := ⟨_, List.getElem?_eq_getElem (by rw [HR.out.2]; omega)⟩
      have HP : Hid ((ordP st ps)[k]? = some p ∧ lastN ps = pl.nm ∧ Okp p ∧ Okp pl ∧ n - 1 < n) := by
        refine ⟨?_, last_at HR.out.2 hpl, HOK.out p (List.mem_of_getElem? hp), HOK.out pl (List.mem_of_getElem? hpl), by omega⟩
        rw [ord_at HR.out.2 hlt, HS9.out, hj, hp]
      have hrow := KB.out.2.2.2.2.nx hB.out
      obtain ⟨bl, off, rfl, hbl, c0, c1, c2, c3⟩ := pool_at hrow hp
      obtain ⟨bl', off', e', _, d0, _, _, _⟩ := pool_at hrow hpl
      obtain ⟨rfl, rfl⟩ : bl = bl' ∧ off = off' := by simpa using e'
      have HPO := hideIt (pool_any p pl.nm style wr.drew HP.out.2.2.1 (nm_len HP.out.2.2.2.1.nm) HST.out)
      have hts : t.size ≤ 1000 := by
        rw [← tl_len, hT.out, List.length_append]
        have g1 := bud_len st (b := (q : Int)) hb1
        have g2 := grps_len st (last := lastN ps) (by rw [HP.out.2.1]; exact HP.out.2.2.2.1.nm) ((ordP st ps).take k) (fun x hx => HOK.out x (mem_ord.1 (List.mem_of_mem_take hx)))
        have g3 : ((ordP st ps).take k).length ≤ 6 := by rw [List.length_take]; omega
        omega
      clear hp hpl e' hrow
      obtain ⟨m, hm⟩ : ∃ m, n - 1 = m := ⟨_, rfl⟩
      rw [hm] at d0
      have hwr : IntKind.i64.wrap ((n : Int) - 1) = (m : Int) := by rw [IntWalk.i64_in _ (by omega)]; omega
      have hmn : m < n := by omega
      have HM := hideIt hm
      clear hm
      obtain ⟨nm, sz, wt, fr⟩ := p
      simp only at c0 c1 c2 c3
      cases b9 with
      | false =>
        obtain rfl : k = j := by simpa using hj
        clear hj
        go_wp2_with fail
        go_region_with (go_at_call 53; refine HPO.out.mono ?_; rintro e wx ⟨⟨s, hs, rfl⟩, hbx⟩)
        all_goals
          have hsz : s.size ≤ 130 := by
            rw [← tl_len, hs]
            exact grp_len (stOf style) HP.out.2.2.1 HP.out.2.2.2.1.nm
          have HN : Hid (tl (t ++ s) = lineL st (fsBud st q) ++ ((ordP st ps).take (k + 1)).flatMap (grpL st (lastN ps))) := by
            show _ = _
            rw [tl_add, hT.out, hs, HSTY.out, take_flat _ _ HP.out.1, HP.out.2.1, List.append_assoc]
          have HX : Hid (Below W.heap.size W wx) := nx_trans hB.out (nx_trans (Below.refl _ _).drew hbx)
          clear hs hbx
          go_wp2_with fail
          go_roundw
          case rel => exact ⟨k + 1, _, by omega, by go_num, rfl, HN.out, HX.out⟩
          case measure => simp [intOf]; omega
      | true =>
        have hjk : (m : Int) - (k : Int) = (j : Int) := by have := HM.out; simp only [if_true] at hj; omega
        clear hj
        go_wp2_with fail
        go_region_with (go_at_call 53; refine HPO.out.mono ?_; rintro e wx ⟨⟨s, hs, rfl⟩, hbx⟩)
        all_goals
          have hsz : s.size ≤ 130 := by
            rw [← tl_len, hs]
            exact grp_len (stOf style) HP.out.2.2.1 HP.out.2.2.2.1.nm
          have HN : Hid (tl (t ++ s) = lineL st (fsBud st q) ++ ((ordP st ps).take (k + 1)).flatMap (grpL st (lastN ps))) := by
            show _ = _
            rw [tl_add, hT.out, hs, HSTY.out, take_flat _ _ HP.out.1, HP.out.2.1, List.append_assoc]
          have HX : Hid (Below W.heap.size W wx) := nx_trans hB.out (nx_trans (Below.refl _ _).drew hbx)
          clear hs hbx
          go_wp2_with fail
          go_roundw
          case rel => exact ⟨k + 1, _, by omega, by go_num, rfl, HN.out, HX.out⟩
          case measure => simp [intOf]; omega
    · go_wp2_with fail
      go_ret
      refine ⟨⟨t, ?_, rfl⟩, nx_trans KB.out.2.1 hB.out⟩
      rw [hT.out, textL_eq, List.take_of_length_le]
      have : (ordP st ps).length = n := by rw [← HR.out.2]; unfold ordP; cases st.b9 <;> simp
      omega
end Co
end Go.Proofs.YtohbonfngeblkaaGreat
