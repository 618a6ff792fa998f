import Derived.Test.YtohbonfngeblkaaGreatMgAn
namespace Go.Proofs.YtohbonfngeblkaaGreat
open Go.RowKit
namespace Co
def textN (st : Sty) (last : ByteArray) (b : Int) (ps : List Pl) : List (List (List UInt8) × Ln) := (fsBud st b, lnBud b) :: ps.flatMap (grp st last)
def textL (st : Sty) (last : ByteArray) (b : Int) (ps : List Pl) : List UInt8 := ((textN st last b ps).map Prod.fst).flatMap (lineL st)
theorem textN_snd (st : Sty) (last : ByteArray) (b : Int) (ps : List Pl) : (textN st last b ps).map Prod.snd = allN st last b ps := by
  unfold textN allN
  rw [List.map_cons, List.map_flatMap]
  rfl
theorem textN_of (st : Sty) {last : ByteArray} {b : Int} {ps : List Pl} (hb : b ≤ 99) (hok : ∀ p ∈ ps, Okp p) (hl : ∀ p ∈ ps, isNm last = true) : ∀ x ∈ textN st last b ps, LnOf x.1 x.2 := by
  intro x hx
  rcases List.mem_cons.1 hx with rfl | hx
  · exact ⟨by simp [fsBud], gd_bud st hb, prs_bud st hb, rfl⟩
  · obtain ⟨p, hp, hx⟩ := List.mem_flatMap.1 hx
    have h1 : LnOf (fsPool st p) (lnPool st p) := ⟨by unfold fsPool; cases st.b7 <;> simp, gd_pool st (hok p hp), prs_pool st (hok p hp), rfl⟩
    have h2 : LnOf (fsFrom st p) (lnFrom p) := ⟨by simp [fsFrom], gd_from st (hok p hp), prs_from st (hok p hp), rfl⟩
    have h3 : LnOf (fsBase st last p) (lnBase st last p) := ⟨by unfold fsBase; cases frB st last p <;> simp, gd_base st (hl p hp) (hok p hp), prs_base st (hl p hp) (hok p hp), rfl⟩
    unfold grp at hx
    cases h5 : st.b5 <;> rw [h5] at hx
    · simp at hx; subst hx; exact h1
    · cases h8 : st.b8 <;> rw [h8] at hx <;> simp at hx <;> rcases hx with rfl | rfl <;> assumption
theorem joinL_len (st : Sty) : ∀ fs : List (List UInt8), (joinL st fs).length ≤ (fs.map fun f => f.length + 2).sum
  | [] => by simp [joinL]
  | f :: r => by
    have := joinL_len st r
    have h : (sepL st).length ≤ 2 := by unfold sepL; cases st.b1 <;> simp
    simp only [joinL, List.length_append, List.map_cons, List.sum_cons]
    omega
theorem line_len (st : Sty) (fs : List (List UInt8)) : (lineL st fs).length ≤ (fs.map fun f => f.length + 2).sum + 6 := by
  have h1 : (padL st).length ≤ 2 := by unfold padL; cases st.b0 <;> simp
  have h2 : (endL st).length ≤ 1 := by unfold endL; cases st.b2 <;> simp
  have h3 : (moreL st).length ≤ 2 := by unfold moreL; cases st.b3 <;> simp
  have h4 : (joinF st fs).length ≤ (fs.map fun f => f.length + 2).sum := by
    cases fs with
    | nil => simp [joinF]
    | cons f r =>
      have := joinL_len st r
      simp only [joinF, List.length_append, List.map_cons, List.sum_cons]
      omega
  simp only [lineL, bodyL, List.length_append, List.length_cons]
  omega
theorem nm_len {s : ByteArray} (h : isNm s = true) : s.size ≤ 8 := by
  unfold isNm at h
  simp only [Bool.and_eq_true, decide_eq_true_eq] at h
  omega
theorem grp_len (st : Sty) {last : ByteArray} {p : Pl} (h : Okp p) (hl : isNm last = true) : (((grp st last p).map Prod.fst).flatMap (lineL st)).length ≤ 130 := by
  have hn := nm_len h.nm
  have hn2 := nm_len hl
  have d1 := lenD st (n := p.sz) (by have := h.s1; omega)
  have d2 := lenD st (n := p.wt) (by have := h.w1; omega)
  have d3 := lenD st (n := p.fr) h.f1
  have l1 := line_len st (fsPool st p)
  have l2 := line_len st (fsFrom st p)
  have l3 := line_len st (fsBase st last p)
  have m1 : ((fsPool st p).map fun f => f.length + 2).sum ≤ 60 := by
    unfold fsPool
    cases st.b7 <;> simp <;> omega
  have m2 : ((fsFrom st p).map fun f => f.length + 2).sum ≤ 57 := by
    simp [fsFrom]; omega
  have m3 : ((fsBase st last p).map fun f => f.length + 2).sum ≤ 56 := by
    unfold fsBase
    cases frB st last p <;> simp <;> omega
  unfold grp
  cases st.b5 <;> cases st.b8 <;> simp <;> omega
theorem text_len (st : Sty) {last : ByteArray} {b : Int} {ps : List Pl} (hb : b ≤ 99) (hok : ∀ p ∈ ps, Okp p) (hl : ∀ p ∈ ps, isNm last = true) : (textL st last b ps).length ≤ 30 + 130 * ps.length := by
  have key : ∀ qs : List Pl, (∀ p ∈ qs, Okp p ∧ isNm last = true) → (((qs.flatMap (grp st last)).map Prod.fst).flatMap (lineL st)).length ≤ 130 * qs.length := by
    intro qs
    induction qs with
    | nil => simp
    | cons q r ih =>
      intro h
      have h1 := grp_len st (h q List.mem_cons_self).1 (h q List.mem_cons_self).2
      have h2 := ih (fun x hx => h x (List.mem_cons_of_mem _ hx))
      rw [List.flatMap_cons, List.map_append, List.flatMap_append, List.length_append, List.length_cons]
      omega
  have h1 := key ps (fun p hp => ⟨hok p hp, hl p hp⟩)
  have h2 := line_len st (fsBud st b)
  have d := lenD st (n := b) (by omega)
  have h3 : ((fsBud st b).map fun f => f.length + 2).sum ≤ 14 := by simp [fsBud]; omega
  unfold textL textN
  rw [List.map_cons, List.flatMap_cons, List.length_append]
  show (lineL st (fsBud st b)).length + _ ≤ _
  omega
theorem inj_of : ∀ ps : List Pl, ps.Pairwise (fun a b => a.nm ≠ b.nm) → ∀ x ∈ ps, ∀ y ∈ ps, x.nm = y.nm → x = y
  | [], _, x, hx, _, _, _ => by simp at hx
  | p :: r, h, x, hx, y, hy, e => by
    have h1 := (List.pairwise_cons.1 h).1
    rcases List.mem_cons.1 hx with ex | hx1
    · rcases List.mem_cons.1 hy with ey | hy1
      · rw [ex, ey]
      · exact absurd (by rw [← ex, e]) (h1 y hy1)
    · rcases List.mem_cons.1 hy with ey | hy1
      · exact absurd (by rw [← ey, e]) (h1 x hx1)
      · exact inj_of r (List.pairwise_cons.1 h).2 x hx1 y hy1 e
theorem ans_text (st : Sty) (last : ByteArray) {b : Int} {ps : List Pl} (h : Okt b ps) (hlast : ps ≠ [] → ∃ q ∈ ps, q.nm = last) (s : ByteArray) (hs : tl s = textL st last b (ordP st ps)) :
    ans s = ⟨(b, ps), 0, 0⟩ ∧ s.size ≤ 1000 := by
  have hok : ∀ p ∈ ordP st ps, Okp p := fun p hp => h.ok p (mem_ord.1 hp)
  have hlast2 : ∀ p ∈ ordP st ps, ∃ q ∈ ordP st ps, q.nm = last := by
    intro p hp
    have hp := mem_ord.1 hp
    obtain ⟨q, hq, e⟩ := hlast (fun e => by rw [e] at hp; simp at hp)
    exact ⟨q, mem_ord.2 hq, e⟩
  have hl : ∀ p ∈ ordP st ps, isNm last = true := by
    intro p hp
    obtain ⟨q, hq, e⟩ := hlast2 p hp
    rw [← e]; exact (hok q hq).nm
  have hne : ps.Pairwise (fun a b => a.nm ≠ b.nm) := h.up.imp (fun h => lt_ne h)
  have hne2 : (ordP st ps).Pairwise (fun a b => a.nm ≠ b.nm) := by
    unfold ordP
    cases st.b9
    · exact hne
    · simp only [if_true]
      rw [List.pairwise_reverse]
      exact hne.imp (fun h => h.symm)
  have hinj : ∀ p ∈ ordP st ps, ∀ q ∈ ordP st ps, p.nm = q.nm → p = q :=
    fun p hp q hq e => inj_of ps hne p (mem_ord.1 hp) q (mem_ord.1 hq) e
  have hlen : (ordP st ps).length ≤ 6 := by
    unfold ordP
    have := h.len
    cases st.b9 <;> simp <;> omega
  have hsz : s.size ≤ 1000 := by
    have := text_len st (b := b) h.b1 hok hl
    rw [← tl_len, hs]; omega
  have hoA : okA [] (allN st last b (ordP st ps)) := by
    refine ⟨ok_bud h.b0 h.b1, ok_pools st last _ _ (by simp) hne2 ?_ ?_ ?_ hok⟩
    · intro l hl p _ hk
      simp at hl
      subst hl
      simp [lnBud] at hk
    · simp [cntC, lnBud]; omega
    · simp [cntC, lnBud]; omega
  obtain ⟨ls, h1, h2⟩ := rd_text st s (textN st last b (ordP st ps)) hs (textN_of st h.b1 hok hl) (by rw [textN_snd]; exact hoA) (by simp [textN])
  rw [textN_snd] at h2
  have hch := chains (b := b) hok hinj hlast2 (st := st)
  have hch2 : ∀ l ∈ ls, baC ls l.frm = true ∧ (chC ls 7 l.frm).length ≤ 3 := by
    intro l hl
    have := hch (np l) (by rw [← h2]; exact List.mem_map_of_mem hl)
    rw [← h2, ← ch_np, List.length_map] at this
    unfold baC at this ⊢
    rw [← find_np, Option.isSome_map] at this
    exact this
  have hE : chE ls = (0, 0) := by
    unfold chE
    rw [no_none ls ls (fun l hl => (hch2 l hl).1), lon_zero ls 6 ls (fun l hl => Nat.le_trans (hch2 l hl).2 (by omega)), lon_zero ls 3 ls (fun l hl => (hch2 l hl).2)]
    simp
  have hT : tabC ls = (b, ps) := by rw [← tab_np, h2, tab_all st last h hinj hlast2]
  refine ⟨?_, hsz⟩
  unfold ans
  rw [if_neg (by omega), h1]
  simp only [ne_eq, not_true_eq_false, if_false, hE, hT]
end Co
end Go.Proofs.YtohbonfngeblkaaGreat
