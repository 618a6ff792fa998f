
import Derived.Test.YtphkgbbfkibfbaaLoD
namespace Go.Proofs.Ytphkgbbfkibfbaa
open Go.RowKit
namespace Co
/-- all lines of a text -/
def allN (st : Sty) (last : ByteArray) (b : Int) (ps : List Pl) : List Ln := lnBud b :: ps.flatMap (grpN st last)
theorem mem_all {st : Sty} {last : ByteArray} {b : Int} {ps : List Pl} {l : Ln} (h : l ∈ allN st last b ps) : l = lnBud b ∨ ∃ p ∈ ps, (st.b5 = false ∧ l = lnPool st p) ∨ (st.b5 = true ∧ (l = lnFrom p ∨ l = lnBase st last p)) := by
  rcases List.mem_cons.1 h with h | h
  · exact .inl h
  · right
    obtain ⟨p, hp, hl⟩ := List.mem_flatMap.1 h
    refine ⟨p, hp, ?_⟩
    rw [grpN_eq] at hl
    cases h5 : st.b5 with
    | false => rw [h5] at hl; simp at hl; exact .inl ⟨rfl, hl⟩
    | true =>
      rw [h5] at hl
      right
      refine ⟨rfl, ?_⟩
      cases h8 : st.b8 <;> rw [h8] at hl <;> simp at hl
      · exact hl.symm
      · exact hl
theorem base_mem {st : Sty} {last : ByteArray} {b : Int} {ps : List Pl} {p : Pl} (hp : p ∈ ps) (h5 : st.b5 = true) : lnBase st last p ∈ allN st last b ps := by
  refine List.mem_cons_of_mem _ (List.mem_flatMap.2 ⟨p, hp, ?_⟩)
  rw [grpN_eq, h5]
  cases st.b8 <;> simp
theorem nm_ne {s : ByteArray} (h : isNm s = true) : s ≠ ⟨#[]⟩ := by
  rintro rfl
  simp [isNm, ByteArray.size] at h
theorem find_base_in {st : Sty} {last : ByteArray} {b : Int} {ps : List Pl} {p : Pl} (hpw : ∀ p ∈ ps, ∀ q ∈ ps, p.nm = q.nm → p = q) (hp : p ∈ ps) (h5 : st.b5 = true) : findC (allN st last b ps) 2 p.nm = some (lnBase st last p) := by
  have hs : (findC (allN st last b ps) 2 p.nm).isSome = true := by
    unfold findC
    rw [List.find?_isSome]
    exact ⟨_, base_mem hp h5, by simp [lnBase]⟩
  obtain ⟨x, hx⟩ := Option.isSome_iff_exists.1 hs
  have hm := List.mem_of_find?_eq_some hx
  have hk := List.find?_some hx
  simp only [Bool.and_eq_true, beq_iff_eq] at hk
  have hn : x.name = p.nm := ba_ext (by have := hk.2; rw [tl_toList, tl_toList] at this; exact this)
  rcases mem_all hm with e | ⟨q, hq, ⟨_, e⟩ | ⟨_, e | e⟩⟩
  · rw [e] at hk; simp [lnBud] at hk
  · rw [e] at hk; simp [lnPool] at hk
  · rw [e] at hk; simp [lnFrom] at hk
  · rw [e] at hn
    have : q = p := hpw q hq p hp hn
    rw [hx, e, this]
theorem find_base_no {st : Sty} {last : ByteArray} {b : Int} {ps : List Pl} (hok : ∀ p ∈ ps, Okp p) : findC (allN st last b ps) 2 ⟨#[]⟩ = none := by
  unfold findC
  rw [List.find?_eq_none]
  intro x hx
  simp only [Bool.and_eq_true, beq_iff_eq, not_and]
  intro hk hn
  have hn : x.name = ⟨#[]⟩ := ba_ext (by rw [tl_toList, tl_toList] at hn; exact hn)
  rcases mem_all hx with e | ⟨q, hq, ⟨_, e⟩ | ⟨_, e | e⟩⟩
  · rw [e] at hk; simp [lnBud] at hk
  · rw [e] at hk; simp [lnPool] at hk
  · rw [e] at hk; simp [lnFrom] at hk
  · rw [e] at hn
    exact nm_ne (hok q hq).nm hn
theorem ch_empty {ls : List Ln} (h : findC ls 2 ⟨#[]⟩ = none) : ∀ f, chC ls f ⟨#[]⟩ = []
  | 0 => rfl
  | f + 1 => by rw [chC, h]
/-- what is asked of a table -/
structure Okt (b : Int) (ps : List Pl) : Prop where
  b0 : 1 ≤ b
  b1 : b ≤ 99
  len : ps.length ≤ 6
  ok : ∀ p ∈ ps, Okp p
  up : ps.Pairwise (fun a b => lt a.nm b.nm = true)
theorem ch_base {st : Sty} {last : ByteArray} {b : Int} {ps : List Pl} (hok : ∀ p ∈ ps, Okp p) (hpw : ∀ p ∈ ps, ∀ q ∈ ps, p.nm = q.nm → p = q) (hlast : ∀ p ∈ ps, ∃ q ∈ ps, q.nm = last) (h5 : st.b5 = true) {p : Pl} (hp : p ∈ ps) :
    ∃ r, chC (allN st last b ps) 7 p.nm = lnBase st last p :: r ∧ r.length ≤ 1 := by
  refine ⟨_, by rw [chC, find_base_in hpw hp h5], ?_⟩
  unfold lnBase
  simp only
  have hno := find_base_no (st := st) (last := last) (b := b) hok
  cases hf : frB st last p with
  | false => simp only [Bool.false_eq_true, if_false]; rw [ch_empty hno]; simp
  | true =>
    simp only [if_true]
    obtain ⟨q, hq, e⟩ := hlast p hp
    have hf2 : frB st last q = false := by simp [frB, e]
    have : chC (allN st last b ps) 6 last = [lnBase st last q] := by
      rw [chC, ← e, find_base_in hpw hq h5]
      simp only [e]
      have : (lnBase st last q).frm = ⟨#[]⟩ := by simp [lnBase, hf2]
      rw [this, ch_empty hno]
    rw [this]; simp
theorem base_has {ls : List Ln} {l : Ln} {nm : ByteArray} (h : findC ls 2 nm = some l) : baC ls nm = true := by simp [baC, h]
theorem chains {st : Sty} {last : ByteArray} {b : Int} {ps : List Pl} (hok : ∀ p ∈ ps, Okp p) (hpw : ∀ p ∈ ps, ∀ q ∈ ps, p.nm = q.nm → p = q) (hlast : ∀ p ∈ ps, ∃ q ∈ ps, q.nm = last) :
    ∀ l ∈ allN st last b ps, baC (allN st last b ps) l.frm = true ∧ (chC (allN st last b ps) 7 l.frm).length ≤ 3 := by
  have hno := find_base_no (st := st) (last := last) (b := b) hok
  have em : baC (allN st last b ps) ⟨#[]⟩ = true ∧ (chC (allN st last b ps) 7 ⟨#[]⟩).length ≤ 3 := by
    rw [ch_empty hno]
    simp [baC, tl_toList]
  intro l hl
  rcases mem_all hl with e | ⟨p, hp, ⟨_, e⟩ | ⟨h5, e | e⟩⟩
  · subst e; exact em
  · subst e; exact em
  · subst e
    have e : (lnFrom p).frm = p.nm := rfl
    obtain ⟨r, h1, h2⟩ := ch_base (b := b) hok hpw hlast h5 hp
    rw [e, h1]
    exact ⟨base_has (find_base_in hpw hp h5), by simp; omega⟩
  · subst e
    cases hf : frB st last p with
    | false =>
      have e : (lnBase st last p).frm = ⟨#[]⟩ := by simp [lnBase, hf]
      rw [e]; exact em
    | true =>
      have e : (lnBase st last p).frm = last := by simp [lnBase, hf]
      obtain ⟨q, hq, e2⟩ := hlast p hp
      obtain ⟨r, h1, h2⟩ := ch_base (b := b) hok hpw hlast h5 hq
      rw [e, ← e2] at *
      rw [h1]
      exact ⟨base_has (find_base_in hpw hq h5), by simp; omega⟩
theorem valL_0 (a : Nat) (r : List (Nat × Nat)) : valL ((0, a) :: r) 0 = some a := by simp [valL]
theorem valL_1 (a : Nat) (r : List (Nat × Nat)) : valL ((1, a) :: r) 1 = some a := by simp [valL]
theorem valL_2 (a : Nat) (r : List (Nat × Nat)) : valL ((2, a) :: r) 2 = some a := by simp [valL]
theorem valL_x {k j : Nat} (a : Nat) (r : List (Nat × Nat)) (h : ((wordB k).toList == (wordB j).toList) = false) : valL ((k, a) :: r) j = valL r j := by simp [valL, h]
theorem wne : ((wordB 0).toList == (wordB 1).toList) = false ∧ ((wordB 0).toList == (wordB 2).toList) = false ∧ ((wordB 1).toList == (wordB 0).toList) = false ∧ ((wordB 1).toList == (wordB 2).toList) = false ∧ ((wordB 2).toList == (wordB 0).toList) = false ∧ ((wordB 2).toList == (wordB 1).toList) = false := by
  rw [wd0, wd1, wd2]; decide
theorem pl_ok {p : Pl} (h : Okp p) : (p.sz.toNat : Int) = p.sz ∧ (p.wt.toNat : Int) = p.wt ∧ (p.fr.toNat : Int) = p.fr :=
  ⟨Int.toNat_of_nonneg h.s0, Int.toNat_of_nonneg h.w0, Int.toNat_of_nonneg h.f0⟩
theorem pl_pool (st : Sty) (ls : List Ln) {p : Pl} (h : Okp p) : plC ls (lnPool st p) = p := by
  obtain ⟨h1, h2, h3⟩ := pl_ok h
  obtain ⟨n1, n2, n3, n4, n5, n6⟩ := wne
  cases p
  unfold plC lnPool valC
  simp only at h1 h2 h3 ⊢
  cases st.b7 <;> simp only [Bool.false_eq_true, if_false, if_true, valL_0, valL_1, valL_2, valL_x _ _ n1, valL_x _ _ n2, valL_x _ _ n4, valL_x _ _ n5, valL_x _ _ n6, h1, h2, h3]
theorem pl_from {st : Sty} {last : ByteArray} (ls r : List Ln) {p : Pl} (h : Okp p) (hc : chC ls 7 p.nm = lnBase st last p :: r) : plC ls (lnFrom p) = p := by
  obtain ⟨h1, h2, h3⟩ := pl_ok h
  obtain ⟨n1, n2, n3, n4, n5, n6⟩ := wne
  have hv : valL (lnBase st last p).sets 0 = some p.sz.toNat := by
    unfold lnBase
    simp only
    cases frB st last p <;> simp only [Bool.false_eq_true, if_false, if_true, valL_0, valL_x _ _ n5]
  have e0 : valL ([] : List (Nat × Nat)) 0 = none := rfl
  have ef : (lnFrom p).frm = p.nm := rfl
  have es : (lnFrom p).sets = [(1, p.wt.toNat), (2, p.fr.toNat)] := rfl
  have en : (lnFrom p).name = p.nm := rfl
  unfold plC
  rw [ef, es, en, hc]
  unfold valC
  simp only [valL_1, valL_2, valL_x _ _ n3, valL_x _ _ n4, valL_x _ _ n5, e0, chvC, hv, h1, h2, h3]
theorem tab_grp {st : Sty} {last : ByteArray} {b : Int} {ps : List Pl} (hok : ∀ p ∈ ps, Okp p) (hpw : ∀ p ∈ ps, ∀ q ∈ ps, p.nm = q.nm → p = q) (hlast : ∀ p ∈ ps, ∃ q ∈ ps, q.nm = last) (x : Int × List Pl) {p : Pl} (hp : p ∈ ps) :
    (grpN st last p).foldl (stC (allN st last b ps)) x = (x.1, insP p x.2) := by
  rw [grpN_eq]
  cases h5 : st.b5 with
  | false =>
    simp only [if_true, List.foldl_cons, List.foldl_nil, stC]
    rw [if_neg (by simp [lnPool]), if_pos (by simp [lnPool]), pl_pool st _ (hok p hp)]
  | true =>
    obtain ⟨r, h1, h2⟩ := ch_base (b := b) hok hpw hlast h5 hp
    have e1 : ∀ x, stC (allN st last b ps) x (lnFrom p) = (x.1, insP p x.2) := by
      intro x
      rw [stC, if_neg (by simp [lnFrom]), if_pos (by simp [lnFrom]), pl_from _ r (hok p hp) h1]
    have e2 : ∀ x, stC (allN st last b ps) x (lnBase st last p) = x := by
      intro x
      rw [stC, if_neg (by simp [lnBase]), if_neg (by simp [lnBase])]
    cases st.b8 <;> simp only [Bool.false_eq_true, Bool.true_eq_false, if_false, if_true, List.foldl_cons, List.foldl_nil, e1, e2]
theorem tab_pools {st : Sty} {last : ByteArray} {b : Int} {ps : List Pl} (hok : ∀ p ∈ ps, Okp p) (hpw : ∀ p ∈ ps, ∀ q ∈ ps, p.nm = q.nm → p = q) (hlast : ∀ p ∈ ps, ∃ q ∈ ps, q.nm = last) :
    ∀ (qs : List Pl), (∀ q ∈ qs, q ∈ ps) → ∀ x : Int × List Pl, (qs.flatMap (grpN st last)).foldl (stC (allN st last b ps)) x = (x.1, qs.foldl (fun a p => insP p a) x.2)
  | [], _, x => rfl
  | q :: r, h, x => by
    rw [List.flatMap_cons, List.foldl_append, tab_grp hok hpw hlast x (h q List.mem_cons_self), tab_pools hok hpw hlast r (fun y hy => h y (List.mem_cons_of_mem _ hy))]
    rfl
/-- the pools in the order in which their lines stand -/
def ordP (st : Sty) (ps : List Pl) : List Pl := if st.b9 = true then ps.reverse else ps
theorem mem_ord {st : Sty} {ps : List Pl} {p : Pl} : p ∈ ordP st ps ↔ p ∈ ps := by
  unfold ordP; cases st.b9 <;> simp
theorem ins_ord (st : Sty) {ps : List Pl} (h : ps.Pairwise (fun a b => lt a.nm b.nm = true)) : (ordP st ps).foldl (fun a p => insP p a) [] = ps := by
  unfold ordP
  cases st.b9 with
  | false => simp only [Bool.false_eq_true, if_false]; rw [ins_all ps [] (by simpa using h)]; rfl
  | true => simp only [if_true]; rw [List.foldl_reverse]; exact ins_rev ps h
theorem tab_all (st : Sty) (last : ByteArray) {b : Int} {ps : List Pl} (h : Okt b ps) (hpw : ∀ p ∈ ordP st ps, ∀ q ∈ ordP st ps, p.nm = q.nm → p = q) (hlast : ∀ p ∈ ordP st ps, ∃ q ∈ ordP st ps, q.nm = last) :
    tabC (allN st last b (ordP st ps)) = (b, ps) := by
  have hok : ∀ p ∈ ordP st ps, Okp p := fun p hp => h.ok p (mem_ord.1 hp)
  unfold tabC
  have e : ∀ x, stC (allN st last b (ordP st ps)) x (lnBud b) = (b, x.2) := by
    intro x
    rw [stC, if_pos (by simp [lnBud])]
    have h0 := h.b0
    have : valC 3 0 (lnBud b).sets [] = b := by
      simp only [valC, lnBud, valL, List.find?_cons, beq_self_eq_true, Option.map_some]
      omega
    rw [this]
  conv => lhs; arg 3; unfold allN
  rw [List.foldl_cons, e, tab_pools hok hpw hlast _ (fun q hq => hq), ins_ord st h.up]
end Co
end Go.Proofs.Ytphkgbbfkibfbaa
