import Derived.Test.YtohbonfngeblkaaGreatMnU
import Derived.Test.YtohbonfngeblkaaGreatMnM
import Derived.Test.YtohbonfngeblkaaGreatMnT
namespace Go.Proofs.YtohbonfngeblkaaGreat
open Go.RowKit
namespace Co
theorem lt_irr (a : ByteArray) : lt a a = false := by
  have := less_total a.toList a.toList
  unfold lt
  cases h : Op.bytesLess a.toList a.toList <;> simp [h] at this ⊢
theorem lt_asym {a b : ByteArray} (h : lt a b = true) : lt b a = false := by
  unfold lt at *
  have := less_total a.toList b.toList
  rw [h] at this
  cases h2 : Op.bytesLess b.toList a.toList <;> simp [h2] at this ⊢
theorem lt_ne {a b : ByteArray} (h : lt a b = true) : a ≠ b := by
  rintro rfl
  rw [lt_irr] at h
  exact absurd h (by simp)
theorem insP_end (p : Pl) : ∀ l : List Pl, (∀ q ∈ l, lt q.nm p.nm = true) → insP p l = l ++ [p]
  | [], _ => rfl
  | q :: r, h => by
    rw [insP, if_neg (by rw [lt_asym (h q List.mem_cons_self)]; simp), insP_end p r (fun x hx => h x (List.mem_cons_of_mem _ hx))]
    rfl
theorem ins_all : ∀ (ps acc : List Pl), (acc ++ ps).Pairwise (fun a b => lt a.nm b.nm = true) → ps.foldl (fun a p => insP p a) acc = acc ++ ps
  | [], acc, _ => by simp
  | p :: r, acc, h => by
    have h1 : ∀ q ∈ acc, lt q.nm p.nm = true := fun q hq => (List.pairwise_append.1 h).2.2 q hq p List.mem_cons_self
    rw [List.foldl_cons, insP_end p acc h1, ins_all r (acc ++ [p]) (by simpa using h)]
    simp
theorem ins_rev : ∀ (ps : List Pl), ps.Pairwise (fun a b => lt a.nm b.nm = true) → ps.foldr (fun p a => insP p a) [] = ps
  | [], _ => rfl
  | p :: r, h => by
    rw [List.foldr_cons, ins_rev r (List.pairwise_cons.1 h).2]
    cases r with
    | nil => rfl
    | cons q r => rw [insP, if_pos ((List.pairwise_cons.1 h).1 q List.mem_cons_self)]
theorem fault_no {acc : List Ln} {l : Ln} (hacc : acc ≠ []) (hk : l.kind = 2 ∨ l.kind = 3) (hfit : allFit l.sets = true) (hcnt : cntC acc l.kind < 6) (htw : twc l.sets = false)
    (hf : ∀ x ∈ acc, x.kind = l.kind → x.name ≠ l.name) : faultC acc l = 0 := by
  have h1 : ¬ acc.length = 0 := fun h => hacc (List.length_eq_zero_iff.1 h)
  have h2 : ¬ l.kind = 1 := by omega
  have h3 : findC acc l.kind l.name = none := by
    unfold findC
    rw [List.find?_eq_none]
    intro x hx
    simp only [Bool.and_eq_true, beq_iff_eq, not_and]
    intro hxk hn
    refine hf x hx hxk (ba_ext ?_)
    rw [tl_toList, tl_toList] at hn
    exact hn
  unfold faultC manyC
  have h4 : ¬ (6 ≤ cntC acc l.kind) := by omega
  simp [h1, h2, hfit, h4, htw, h3]
theorem cntC_snoc (acc : List Ln) (l : Ln) (k : Nat) : cntC (acc ++ [l]) k = cntC acc k + if l.kind = k then 1 else 0 := by
  unfold cntC
  rw [List.filter_append, List.length_append]
  congr 1
  by_cases h : l.kind = k <;> simp [h]
theorem inB_nat {lo hi : Int} {n : Int} (h0 : 0 ≤ n) (h1 : lo ≤ n) (h2 : n ≤ hi) : inB lo hi (n.toNat : Int) = true := by
  simp only [inB, Bool.and_eq_true, decide_eq_true_eq]; omega
theorem fit_s {p : Pl} (h : Okp p) : fitsK 0 (p.sz.toNat : Int) = true := inB_nat h.s0 h.s0 h.s1
theorem fit_w {p : Pl} (h : Okp p) : fitsK 1 (p.wt.toNat : Int) = true := inB_nat h.w0 h.w0 h.w1
theorem fit_f {p : Pl} (h : Okp p) : fitsK 2 (p.fr.toNat : Int) = true := inB_nat h.f0 h.f0 h.f1
theorem wd0 : (wordB 0).toList = wSize := mkL _
theorem wd1 : (wordB 1).toList = wWait := mkL _
theorem wd2 : (wordB 2).toList = wFar := mkL _
theorem wd3 : (wordB 3).toList = wBudget := mkL _
theorem fit3 : fitsK 2 ((3 : Nat) : Int) = true := by decide
theorem ok_bud {b : Int} (h1 : 1 ≤ b) (h2 : b ≤ 99) : faultC [] (lnBud b) = 0 := by
  have hf : fitsK 3 (b.toNat : Int) = true := inB_nat (by omega) h1 h2
  simp [-Int.ofNat_toNat, faultC, lnBud, allFit, hf, manyC, twc, findC]
theorem fit_pool (st : Sty) {p : Pl} (h : Okp p) : allFit (lnPool st p).sets = true ∧ twc (lnPool st p).sets = false := by
  unfold lnPool
  cases st.b7 <;> simp [-Int.ofNat_toNat, allFit, twc, fit_s h, fit_w h, fit_f h, wd0, wd1, wd2]
theorem fit_from {p : Pl} (h : Okp p) : allFit (lnFrom p).sets = true ∧ twc (lnFrom p).sets = false := by
  simp [-Int.ofNat_toNat, lnFrom, allFit, twc, fit_w h, fit_f h, wd1, wd2]
theorem fit_base (st : Sty) (last : ByteArray) {p : Pl} (h : Okp p) : allFit (lnBase st last p).sets = true ∧ twc (lnBase st last p).sets = false := by
  have := fit3
  unfold lnBase
  cases frB st last p <;> simp [-Int.ofNat_toNat, allFit, twc, fit_s h, wd0, wd2] <;> exact this
def grp (st : Sty) (last : ByteArray) (p : Pl) : List (List (List UInt8) × Ln) :=
  if st.b5 = false then [(fsPool st p, lnPool st p)]
  else if st.b8 = true then [(fsFrom st p, lnFrom p), (fsBase st last p, lnBase st last p)]
  else [(fsBase st last p, lnBase st last p), (fsFrom st p, lnFrom p)]
def grpN (st : Sty) (last : ByteArray) (p : Pl) : List Ln := (grp st last p).map Prod.snd
theorem grpN_eq (st : Sty) (last : ByteArray) (p : Pl) : grpN st last p = if st.b5 = false then [lnPool st p] else if st.b8 = true then [lnFrom p, lnBase st last p] else [lnBase st last p, lnFrom p] := by
  unfold grpN grp
  cases st.b5 <;> cases st.b8 <;> rfl
theorem ok_pools (st : Sty) (last : ByteArray) : ∀ (ps : List Pl) (acc : List Ln), acc ≠ [] → ps.Pairwise (fun a b => a.nm ≠ b.nm) → (∀ l ∈ acc, ∀ p ∈ ps, (l.kind = 2 ∨ l.kind = 3) → l.name ≠ p.nm) →
    cntC acc 2 + ps.length ≤ 6 → cntC acc 3 + ps.length ≤ 6 → (∀ p ∈ ps, Okp p) → okA acc (ps.flatMap (grpN st last))
  | [], _, _, _, _, _, _, _ => trivial
  | p :: r, acc, hne, hpw, hnm, h2, h3, hok => by
    have hp := hok p List.mem_cons_self
    have hd : ∀ q ∈ r, p.nm ≠ q.nm := (List.pairwise_cons.1 hpw).1
    have hmine : ∀ l ∈ acc, (l.kind = 2 ∨ l.kind = 3) → l.name ≠ p.nm := fun l hl hk => hnm l hl p List.mem_cons_self hk
    have hrest : ∀ l ∈ acc, ∀ q ∈ r, (l.kind = 2 ∨ l.kind = 3) → l.name ≠ q.nm := fun l hl q hq hk => hnm l hl q (List.mem_cons_of_mem _ hq) hk
    simp only [List.length_cons] at h2 h3
    have hokr : ∀ q ∈ r, Okp q := fun q hq => hok q (List.mem_cons_of_mem _ hq)
    rw [List.flatMap_cons]
    have pool1 : ∀ (a : List Ln), a ≠ [] → cntC a 3 < 6 → (∀ x ∈ a, x.kind = 3 → x.name ≠ p.nm) → faultC a (lnPool st p) = 0 := fun a h1 h2 h3 => fault_no h1 (.inr rfl) (fit_pool st hp).1 h2 (fit_pool st hp).2 h3
    have from1 : ∀ (a : List Ln), a ≠ [] → cntC a 3 < 6 → (∀ x ∈ a, x.kind = 3 → x.name ≠ p.nm) → faultC a (lnFrom p) = 0 := fun a h1 h2 h3 => fault_no h1 (.inr rfl) (fit_from hp).1 h2 (fit_from hp).2 h3
    have base1 : ∀ (a : List Ln), a ≠ [] → cntC a 2 < 6 → (∀ x ∈ a, x.kind = 2 → x.name ≠ p.nm) → faultC a (lnBase st last p) = 0 := fun a h1 h2 h3 => fault_no h1 (.inl rfl) (fit_base st last hp).1 h2 (fit_base st last hp).2 h3
    have kp : (lnPool st p).kind = 3 := rfl
    have kf : (lnFrom p).kind = 3 := rfl
    have kb : (lnBase st last p).kind = 2 := rfl
    have np : (lnPool st p).name = p.nm := rfl
    have nf : (lnFrom p).name = p.nm := rfl
    have nb : (lnBase st last p).name = p.nm := rfl
    refine okA_append _ _ _ ?_ ?_
    · rw [grpN_eq]
      cases st.b5 with
      | false => exact ⟨pool1 acc hne (by omega) (fun x hx hk => hmine x hx (.inr hk)), trivial⟩
      | true =>
        cases st.b8 with
        | true =>
          refine ⟨from1 acc hne (by omega) (fun x hx hk => hmine x hx (.inr hk)), base1 _ (by simp) (by rw [cntC_snoc, kf]; simp; omega) ?_, trivial⟩
          intro x hx hk
          rcases List.mem_append.1 hx with hx | hx
          · exact hmine x hx (.inl hk)
          · simp at hx; subst hx; rw [kf] at hk; omega
        | false =>
          refine ⟨base1 acc hne (by omega) (fun x hx hk => hmine x hx (.inl hk)), from1 _ (by simp) (by rw [cntC_snoc, kb]; simp; omega) ?_, trivial⟩
          intro x hx hk
          rcases List.mem_append.1 hx with hx | hx
          · exact hmine x hx (.inr hk)
          · simp at hx; subst hx; rw [kb] at hk; omega
    · have hc : cntC (acc ++ grpN st last p) 2 ≤ cntC acc 2 + 1 ∧ cntC (acc ++ grpN st last p) 3 ≤ cntC acc 3 + 1 ∧ ∀ x ∈ grpN st last p, x.name = p.nm := by
        rw [grpN_eq]
        cases st.b5 with
        | false => simp [cntC_snoc, kp, np]
        | true =>
          cases st.b8 with
          | true =>
            have e : ∀ x y : Ln, acc ++ [x, y] = acc ++ [x] ++ [y] := by simp
            simp only [reduceIte, Bool.true_eq_false, e, cntC_snoc, kf, kb]
            simp [nf, nb]
          | false =>
            have e : ∀ x y : Ln, acc ++ [x, y] = acc ++ [x] ++ [y] := by simp
            simp only [reduceIte, Bool.true_eq_false, Bool.false_eq_true, e, cntC_snoc, kf, kb]
            simp [nf, nb]
      refine ok_pools st last r _ (by simp [hne]) (List.pairwise_cons.1 hpw).2 ?_ (by omega) (by omega) hokr
      intro l hl q hq hk
      rcases List.mem_append.1 hl with hl | hl
      · exact hrest l hl q hq hk
      · rw [hc.2.2 l hl]; exact hd q hq
end Co
end Go.Proofs.YtohbonfngeblkaaGreat
namespace Go.Proofs.YtohbonfngeblkaaGreat
open Go.RowKit
namespace Co
def allN (st : Sty) (last : ByteArray) (b : Int) (ps : List Pl) : List Ln := lnBud b :: ps.flatMap (grpN st last)
theorem mem_all {st : Sty} {last : ByteArray} {b : Int} {ps : List Pl} {l : Ln} (h : l ∈ allN st last b ps) : l = lnBud b ∨ ∃ p ∈ ps, (st.b5 = false ∧ l = lnPool st p) ∨ (st.b5 = true ∧ (l = lnFrom p ∨ l = lnBase st last p)) := by
  rcases List.mem_cons.1 h with h | h
  · exact .inl h
  · right
    obtain ⟨p, hp, hl⟩ := List.mem_flatMap.1 h
    refine ⟨p, hp, ?_⟩
    rw [grpN_eq] at hl
    cases h5 : st.b5 with
    | false => rw [h5] at hl; simp at hl; exact .inl ⟨rfl, hl⟩
    | true =>
      rw [h5] at hl
      right
      refine ⟨rfl, ?_⟩
      cases h8 : st.b8 <;> rw [h8] at hl <;> simp at hl
      · exact hl.symm
      · exact hl
theorem base_mem {st : Sty} {last : ByteArray} {b : Int} {ps : List Pl} {p : Pl} (hp : p ∈ ps) (h5 : st.b5 = true) : lnBase st last p ∈ allN st last b ps := by
  refine List.mem_cons_of_mem _ (List.mem_flatMap.2 ⟨p, hp, ?_⟩)
  rw [grpN_eq, h5]
  cases st.b8 <;> simp
theorem nm_ne {s : ByteArray} (h : isNm s = true) : s ≠ ⟨#[]⟩ := by
  rintro rfl
  simp [isNm, ByteArray.size] at h
theorem find_base_in {st : Sty} {last : ByteArray} {b : Int} {ps : List Pl} {p : Pl} (hpw : ∀ p ∈ ps, ∀ q ∈ ps, p.nm = q.nm → p = q) (hp : p ∈ ps) (h5 : st.b5 = true) : findC (allN st last b ps) 2 p.nm = some (lnBase st last p) := by
  have hs : (findC (allN st last b ps) 2 p.nm).isSome = true := by
    unfold findC
    rw [List.find?_isSome]
    exact ⟨_, base_mem hp h5, by simp [lnBase]⟩
  obtain ⟨x, hx⟩ := Option.isSome_iff_exists.1 hs
  have hm := List.mem_of_find?_eq_some hx
  have hk := List.find?_some hx
  simp only [Bool.and_eq_true, beq_iff_eq] at hk
  have hn : x.name = p.nm := ba_ext (by have := hk.2; rw [tl_toList, tl_toList] at this; exact this)
  rcases mem_all hm with e | ⟨q, hq, ⟨_, e⟩ | ⟨_, e | e⟩⟩
  · rw [e] at hk; simp [lnBud] at hk
  · rw [e] at hk; simp [lnPool] at hk
  · rw [e] at hk; simp [lnFrom] at hk
  · rw [e] at hn
    have : q = p := hpw q hq p hp hn
    rw [hx, e, this]
theorem find_base_no {st : Sty} {last : ByteArray} {b : Int} {ps : List Pl} (hok : ∀ p ∈ ps, Okp p) : findC (allN st last b ps) 2 ⟨#[]⟩ = none := by
  unfold findC
  rw [List.find?_eq_none]
  intro x hx
  simp only [Bool.and_eq_true, beq_iff_eq, not_and]
  intro hk hn
  have hn : x.name = ⟨#[]⟩ := ba_ext (by rw [tl_toList, tl_toList] at hn; exact hn)
  rcases mem_all hx with e | ⟨q, hq, ⟨_, e⟩ | ⟨_, e | e⟩⟩
  · rw [e] at hk; simp [lnBud] at hk
  · rw [e] at hk; simp [lnPool] at hk
  · rw [e] at hk; simp [lnFrom] at hk
  · rw [e] at hn
    exact nm_ne (hok q hq).nm hn
theorem ch_empty {ls : List Ln} (h : findC ls 2 ⟨#[]⟩ = none) : ∀ f, chC ls f ⟨#[]⟩ = []
  | 0 => rfl
  | f + 1 => by rw [chC, h]
structure Okt (b : Int) (ps : List Pl) : Prop where
  b0 : 1 ≤ b
  b1 : b ≤ 99
  len : ps.length ≤ 6
  ok : ∀ p ∈ ps, Okp p
  up : ps.Pairwise (fun a b => lt a.nm b.nm = true)
theorem ch_base {st : Sty} {last : ByteArray} {b : Int} {ps : List Pl} (hok : ∀ p ∈ ps, Okp p) (hpw : ∀ p ∈ ps, ∀ q ∈ ps, p.nm = q.nm → p = q) (hlast : ∀ p ∈ ps, ∃ q ∈ ps, q.nm = last) (h5 : st.b5 = true) {p : Pl} (hp : p ∈ ps) :
    ∃ r, chC (allN st last b ps) 7 p.nm = lnBase st last p :: r ∧ r.length ≤ 1 := by
  refine ⟨_, by rw [chC, find_base_in hpw hp h5], ?_⟩
  unfold lnBase
  simp only
  have hno := find_base_no (st := st) (last := last) (b := b) hok
  cases hf : frB st last p with
  | false => simp only [Bool.false_eq_true, if_false]; rw [ch_empty hno]; simp
  | true =>
    simp only [if_true]
    obtain ⟨q, hq, e⟩ := hlast p hp
    have hf2 : frB st last q = false := by simp [frB, e]
    have : chC (allN st last b ps) 6 last = [lnBase st last q] := by
      rw [chC, ← e, find_base_in hpw hq h5]
      simp only [e]
      have : (lnBase st last q).frm = ⟨#[]⟩ := by simp [lnBase, hf2]
      rw [this, ch_empty hno]
    rw [this]; simp
theorem base_has {ls : List Ln} {l : Ln} {nm : ByteArray} (h : findC ls 2 nm = some l) : baC ls nm = true := by simp [baC, h]
theorem chains {st : Sty} {last : ByteArray} {b : Int} {ps : List Pl} (hok : ∀ p ∈ ps, Okp p) (hpw : ∀ p ∈ ps, ∀ q ∈ ps, p.nm = q.nm → p = q) (hlast : ∀ p ∈ ps, ∃ q ∈ ps, q.nm = last) :
    ∀ l ∈ allN st last b ps, baC (allN st last b ps) l.frm = true ∧ (chC (allN st last b ps) 7 l.frm).length ≤ 3 := by
  have hno := find_base_no (st := st) (last := last) (b := b) hok
  have em : baC (allN st last b ps) ⟨#[]⟩ = true ∧ (chC (allN st last b ps) 7 ⟨#[]⟩).length ≤ 3 := by
    rw [ch_empty hno]
    simp [baC, tl_toList]
  intro l hl
  rcases mem_all hl with e | ⟨p, hp, ⟨_, e⟩ | ⟨h5, e | e⟩⟩
  · subst e; exact em
  · subst e; exact em
  · subst e
    have e : (lnFrom p).frm = p.nm := rfl
    obtain ⟨r, h1, h2⟩ := ch_base (b := b) hok hpw hlast h5 hp
    rw [e, h1]
    exact ⟨base_has (find_base_in hpw hp h5), by simp; omega⟩
  · subst e
    cases hf : frB st last p with
    | false =>
      have e : (lnBase st last p).frm = ⟨#[]⟩ := by simp [lnBase, hf]
      rw [e]; exact em
    | true =>
      have e : (lnBase st last p).frm = last := by simp [lnBase, hf]
      obtain ⟨q, hq, e2⟩ := hlast p hp
      obtain ⟨r, h1, h2⟩ := ch_base (b := b) hok hpw hlast h5 hq
      rw [e, ← e2] at *
      rw [h1]
      exact ⟨base_has (find_base_in hpw hq h5), by simp; omega⟩
theorem valL_0 (a : Nat) (r : List (Nat × Nat)) : valL ((0, a) :: r) 0 = some a := by simp [valL]
theorem valL_1 (a : Nat) (r : List (Nat × Nat)) : valL ((1, a) :: r) 1 = some a := by simp [valL]
theorem valL_2 (a : Nat) (r : List (Nat × Nat)) : valL ((2, a) :: r) 2 = some a := by simp [valL]
theorem valL_x {k j : Nat} (a : Nat) (r : List (Nat × Nat)) (h : ((wordB k).toList == (wordB j).toList) = false) : valL ((k, a) :: r) j = valL r j := by simp [valL, h]
theorem wne : ((wordB 0).toList == (wordB 1).toList) = false ∧ ((wordB 0).toList == (wordB 2).toList) = false ∧ ((wordB 1).toList == (wordB 0).toList) = false ∧ ((wordB 1).toList == (wordB 2).toList) = false ∧ ((wordB 2).toList == (wordB 0).toList) = false ∧ ((wordB 2).toList == (wordB 1).toList) = false := by
  rw [wd0, wd1, wd2]; decide
theorem pl_ok {p : Pl} (h : Okp p) : (p.sz.toNat : Int) = p.sz ∧ (p.wt.toNat : Int) = p.wt ∧ (p.fr.toNat : Int) = p.fr :=
  ⟨Int.toNat_of_nonneg h.s0, Int.toNat_of_nonneg h.w0, Int.toNat_of_nonneg h.f0⟩
theorem pl_pool (st : Sty) (ls : List Ln) {p : Pl} (h : Okp p) : plC ls (lnPool st p) = p := by
  obtain ⟨h1, h2, h3⟩ := pl_ok h
  obtain ⟨n1, n2, n3, n4, n5, n6⟩ := wne
  cases p
  unfold plC lnPool valC
  simp only at h1 h2 h3 ⊢
  cases st.b7 <;> simp only [Bool.false_eq_true, if_false, if_true, valL_0, valL_1, valL_2, valL_x _ _ n1, valL_x _ _ n2, valL_x _ _ n4, valL_x _ _ n5, valL_x _ _ n6, h1, h2, h3]
theorem pl_from {st : Sty} {last : ByteArray} (ls r : List Ln) {p : Pl} (h : Okp p) (hc : chC ls 7 p.nm = lnBase st last p :: r) : plC ls (lnFrom p) = p := by
  obtain ⟨h1, h2, h3⟩ := pl_ok h
  obtain ⟨n1, n2, n3, n4, n5, n6⟩ := wne
  have hv : valL (lnBase st last p).sets 0 = some p.sz.toNat := by
    unfold lnBase
    simp only
    cases frB st last p <;> simp only [Bool.false_eq_true, if_false, if_true, valL_0, valL_x _ _ n5]
  have e0 : valL ([] : List (Nat × Nat)) 0 = none := rfl
  have ef : (lnFrom p).frm = p.nm := rfl
  have es : (lnFrom p).sets = [(1, p.wt.toNat), (2, p.fr.toNat)] := rfl
  have en : (lnFrom p).name = p.nm := rfl
  unfold plC
  rw [ef, es, en, hc]
  unfold valC
  simp only [valL_1, valL_2, valL_x _ _ n3, valL_x _ _ n4, valL_x _ _ n5, e0, chvC, hv, h1, h2, h3]
theorem tab_grp {st : Sty} {last : ByteArray} {b : Int} {ps : List Pl} (hok : ∀ p ∈ ps, Okp p) (hpw : ∀ p ∈ ps, ∀ q ∈ ps, p.nm = q.nm → p = q) (hlast : ∀ p ∈ ps, ∃ q ∈ ps, q.nm = last) (x : Int × List Pl) {p : Pl} (hp : p ∈ ps) :
    (grpN st last p).foldl (stC (allN st last b ps)) x = (x.1, insP p x.2) := by
  rw [grpN_eq]
  cases h5 : st.b5 with
  | false =>
    simp only [if_true, List.foldl_cons, List.foldl_nil, stC]
    rw [if_neg (by simp [lnPool]), if_pos (by simp [lnPool]), pl_pool st _ (hok p hp)]
  | true =>
    obtain ⟨r, h1, h2⟩ := ch_base (b := b) hok hpw hlast h5 hp
    have e1 : ∀ x, stC (allN st last b ps) x (lnFrom p) = (x.1, insP p x.2) := by
      intro x
      rw [stC, if_neg (by simp [lnFrom]), if_pos (by simp [lnFrom]), pl_from _ r (hok p hp) h1]
    have e2 : ∀ x, stC (allN st last b ps) x (lnBase st last p) = x := by
      intro x
      rw [stC, if_neg (by simp [lnBase]), if_neg (by simp [lnBase])]
    cases st.b8 <;> simp only [Bool.false_eq_true, Bool.true_eq_false, if_false, if_true, List.foldl_cons, List.foldl_nil, e1, e2]
theorem tab_pools {st : Sty} {last : ByteArray} {b : Int} {ps : List Pl} (hok : ∀ p ∈ ps, Okp p) (hpw : ∀ p ∈ ps, ∀ q ∈ ps, p.nm = q.nm → p = q) (hlast : ∀ p ∈ ps, ∃ q ∈ ps, q.nm = last) :
    ∀ (qs : List Pl), (∀ q ∈ qs, q ∈ ps) → ∀ x : Int × List Pl, (qs.flatMap (grpN st last)).foldl (stC (allN st last b ps)) x = (x.1, qs.foldl (fun a p => insP p a) x.2)
  | [], _, x => rfl
  | q :: r, h, x => by
    rw [List.flatMap_cons, List.foldl_append, tab_grp hok hpw hlast x (h q List.mem_cons_self), tab_pools hok hpw hlast r (fun y hy => h y (List.mem_cons_of_mem _ hy))]
    rfl
def ordP (st : Sty) (ps : List Pl) : List Pl := if st.b9 = true then ps.reverse else ps
theorem mem_ord {st : Sty} {ps : List Pl} {p : Pl} : p ∈ ordP st ps ↔ p ∈ ps := by
  unfold ordP; cases st.b9 <;> simp
theorem ins_ord (st : Sty) {ps : List Pl} (h : ps.Pairwise (fun a b => lt a.nm b.nm = true)) : (ordP st ps).foldl (fun a p => insP p a) [] = ps := by
  unfold ordP
  cases st.b9 with
  | false => simp only [Bool.false_eq_true, if_false]; rw [ins_all ps [] (by simpa using h)]; rfl
  | true => simp only [if_true]; rw [List.foldl_reverse]; exact ins_rev ps h
theorem tab_all (st : Sty) (last : ByteArray) {b : Int} {ps : List Pl} (h : Okt b ps) (hpw : ∀ p ∈ ordP st ps, ∀ q ∈ ordP st ps, p.nm = q.nm → p = q) (hlast : ∀ p ∈ ordP st ps, ∃ q ∈ ordP st ps, q.nm = last) :
    tabC (allN st last b (ordP st ps)) = (b, ps) := by
  have hok : ∀ p ∈ ordP st ps, Okp p := fun p hp => h.ok p (mem_ord.1 hp)
  unfold tabC
  have e : ∀ x, stC (allN st last b (ordP st ps)) x (lnBud b) = (b, x.2) := by
    intro x
    rw [stC, if_pos (by simp [lnBud])]
    have h0 := h.b0
    have : valC 3 0 (lnBud b).sets [] = b := by
      simp only [valC, lnBud, valL, List.find?_cons, beq_self_eq_true, Option.map_some]
      omega
    rw [this]
  conv => lhs; arg 3; unfold allN
  rw [List.foldl_cons, e, tab_pools hok hpw hlast _ (fun q hq => hq), ins_ord st h.up]
end Co
end Go.Proofs.YtohbonfngeblkaaGreat
namespace Go.Proofs.YtohbonfngeblkaaGreat
open Go.RowKit
namespace Lw
open Co
def pkI (c n : Int) : Int := if c < 0 then -((c + 1).tmod n) else c % n
theorem pkI_in {c n : Int} (hn : 0 < n) : 0 ≤ pkI c n ∧ pkI c n < n := by
  unfold pkI
  split
  · have h := mod_lt (c := -(c + 1)) (by omega) hn
    rw [Int.neg_tmod] at h
    exact h
  · exact ⟨Int.emod_nonneg _ (by omega), Int.emod_lt_of_pos _ hn⟩
set_option maxRecDepth 20000 in
set_option maxHeartbeats 400000 in
theorem gPick (c n : Int) (w : World) (hc : I64 c) (hn : 0 < n) (hn2 : n ≤ 1000) :
    Calls Tryz.prog 23 #[.int .i64 c, .int .i64 n] w fun e w' => e = .returned (.int .i64 (pkI c n)) ∧ w' = w := by
  obtain ⟨h1, h2⟩ := hc
  have hn0 : ¬ n = 0 := by omega
  by_cases hneg : c < 0
  · have h3 : -(c + 1) ≥ 0 := by omega
    have HE : Hid (pkI c n = -((c + 1).tmod n)) := if_pos hneg
    go_enter Tryz.func23, Tryz.ntmps23
    go_wp2_with fail
    go_ret
    exact ⟨by rw [HE.out]; rfl, rfl⟩
  · have HE : Hid (pkI c n = c % n) := if_neg hneg
    go_enter Tryz.func23, Tryz.ntmps23
    go_wp2_with fail
    go_ret
    exact ⟨by rw [HE.out]; rfl, rfl⟩
abbrev noneB : ByteArray := ⟨#[110, 111, 110, 101]⟩
def gNm (A B : List Pl) (k : Int) : ByteArray := match (A ++ B)[(pkI k ((A.length : Int) + (B.length : Int) + 1)).toNat]? with | some p => p.nm | none => noneB
abbrev bGame (gp : Nat) (a : Int) (va : Value) (b : Int) (vb : Value) : Obj := .cells #[.pointer (some ⟨gp, 0, none⟩), .int .i64 a, va, .int .i64 b, vb] 36
structure GameAt (w : World) (gg gp : Nat) (S : Sta) (X : Aux) (Fp : Nat → Prop) (A B : Int × List Pl) (ao : Option Addr) (ac : Nat) (bo : Option Addr) (bc : Nat) : Prop where
  box : w.heap[gg]? = some (bGame gp A.1 (.slice ao A.2.length ac) B.1 (.slice bo B.2.length bc))
  desk : DeskAt w gp S X Fp
  a : RowAt w (.slice ao A.2.length ac) A.2.length (flatP A.2)
  b : RowAt w (.slice bo B.2.length bc) B.2.length (flatP B.2)
  la : ∀ g, (Value.slice ao A.2.length ac).ownBlock = some g → g < w.heap.size ∧ ¬ Fp g
  lb : ∀ g, (Value.slice bo B.2.length bc).ownBlock = some g → g < w.heap.size ∧ ¬ Fp g
  dg : ¬ Fp gg
theorem gblk5 {w : World} {g : Nat} {c0 c1 c2 c3 c4 : Value} {t : TypeId} (h : w.heap[g]? = some (.cells #[c0, c1, c2, c3, c4] t (0, 0))) : w.cell? ⟨g, 0, none⟩ = some c0 ∧ w.cell? ⟨g, 1, none⟩ = some c1 ∧ w.cell? ⟨g, 2, none⟩ = some c2 ∧ w.cell? ⟨g, 3, none⟩ = some c3 ∧ w.cell? ⟨g, 4, none⟩ = some c4 := by
  refine ⟨?_, ?_, ?_, ?_, ?_⟩ <;> simp [World.cell?, h]
theorem grow_keep {w w' : World} {v : Value} {n : Nat} {cs : List Value} (h : RowAt w v n cs) (hs : w.heap.size ≤ w'.heap.size) (hh : ∀ g, v.ownBlock = some g → w'.heap[g]? = w.heap[g]?) : RowAt w' v n cs := by
  obtain ⟨ao, c, rfl, hl, hor⟩ := h
  refine ⟨ao, c, rfl, hl, ?_⟩
  rcases hor with h | ⟨b, off, rfl, hb, hc⟩
  · exact .inl h
  · refine .inr ⟨b, off, rfl, Nat.lt_of_lt_of_le hb hs, fun j x hx => ?_⟩
    rw [World.cell?_of_block (hh b rfl)]
    exact hc j x hx
theorem GameAt.lt {w : World} {gg gp : Nat} {S : Sta} {X : Aux} {Fp : Nat → Prop} {A B : Int × List Pl} {ao : Option Addr} {ac : Nat} {bo : Option Addr} {bc : Nat} (h : GameAt w gg gp S X Fp A B ao ac bo bc) : gg < w.heap.size := (Array.getElem?_eq_some_iff.1 h.box).1
theorem GameAt.below {w w' : World} {gg gp : Nat} {S : Sta} {X : Aux} {Fp : Nat → Prop} {A B : Int × List Pl} {ao : Option Addr} {ac : Nat} {bo : Option Addr} {bc : Nat} (h : GameAt w gg gp S X Fp A B ao ac bo bc) (hb : Below w.heap.size w w') : GameAt w' gg gp S X Fp A B ao ac bo bc :=
  ⟨(hb.block gg h.lt).trans h.box, h.desk.keep (G := fun _ => False) (Chg.of_below hb) (fun _ _ h => h), h.a.nx hb, h.b.nx hb, fun g hg => ⟨Nat.lt_of_lt_of_le (h.la g hg).1 hb.size, (h.la g hg).2⟩, fun g hg => ⟨Nat.lt_of_lt_of_le (h.lb g hg).1 hb.size, (h.lb g hg).2⟩, h.dg⟩
theorem GameAt.moved {w w' : World} {gg gp : Nat} {S : Sta} {X : Aux} {Fp : Nat → Prop} {A B : Int × List Pl} {ao : Option Addr} {ac : Nat} {bo : Option Addr} {bc : Nat} {S' : Sta} {X' : Aux} (h : GameAt w gg gp S X Fp A B ao ac bo bc) (hm : Moved w w' gp S' X' Fp) : ∃ Fp', GameAt w' gg gp S' X' Fp' A B ao ac bo bc ∧ (∀ y, Fp' y → Fp y ∨ w.heap.size ≤ y) ∧ Chg Fp w w' := by
  obtain ⟨Fp', hd, hF, hch⟩ := hm
  have hn : ∀ g, g < w.heap.size → ¬ Fp g → ¬ Fp' g := fun g hg hn hf => by
    rcases hF g hf with h1 | h1
    · exact hn h1
    · omega
  refine ⟨Fp', ⟨(hch.block gg h.lt h.dg).trans h.box, hd, grow_keep h.a hch.size (fun g hg => hch.block g (h.la g hg).1 (h.la g hg).2), grow_keep h.b hch.size (fun g hg => hch.block g (h.lb g hg).1 (h.lb g hg).2), fun g hg => ⟨Nat.lt_of_lt_of_le (h.la g hg).1 hch.size, hn g (h.la g hg).1 (h.la g hg).2⟩, fun g hg => ⟨Nat.lt_of_lt_of_le (h.lb g hg).1 hch.size, hn g (h.lb g hg).1 (h.lb g hg).2⟩, hn gg h.lt h.dg⟩, hF, hch⟩
set_option maxRecDepth 20000 in
set_option maxHeartbeats 4000000 in
theorem gName_flat (gg gp : Nat) (a1 : Int) (ao : Option Addr) (n ac : Nat) (b1 : Int) (bo : Option Addr) (m bc : Nat) (ps qs : List Pl) (k : Int) (w : World) (hg : w.heap[gg]? = some (bGame gp a1 (.slice ao n ac) b1 (.slice bo m bc))) (ha : RowAt w (.slice ao n ac) n (flatP ps)) (hb : RowAt w (.slice bo m bc) m (flatP qs)) (hn : ps.length = n) (hm : qs.length = m) (hn6 : n ≤ 100) (hm6 : m ≤ 100) (hk : I64 k) :
    Calls Tryz.prog 35 #[.pointer (some ⟨gg, 0, none⟩), .int .i64 k] w fun e w' => e = .returned (.string (gNm ps qs k)) ∧ Below w.heap.size w w' := by
  obtain ⟨c0, c1, c2, c3, c4⟩ := gblk5 hg
  have HPK := hideIt (fun u => gPick k ((n : Int) + (m : Int) + 1) u hk (by omega) (by omega))
  obtain ⟨hi0, hi1⟩ := pkI_in (c := k) (n := (n : Int) + (m : Int) + 1) (by omega)
  obtain ⟨i, hi⟩ : ∃ i : Nat, pkI k ((n : Int) + (m : Int) + 1) = (i : Int) := ⟨(pkI k ((n : Int) + (m : Int) + 1)).toNat, (Int.toNat_of_nonneg hi0).symm⟩
  have HG : Hid (gNm ps qs k = match (ps ++ qs)[i]? with | some p => p.nm | none => noneB) := by
    show _ = _
    unfold gNm
    rw [hn, hm, hi]
    simp
  rw [hi] at HPK hi1
  have HR : Hid (RowAt w (.slice ao n ac) n (flatP ps) ∧ RowAt w (.slice bo m bc) m (flatP qs) ∧ ps.length = n ∧ qs.length = m) := ⟨ha, hb, hn, hm⟩
  clear ha hb hn hm hi hi0 hg hk
  go_enter Tryz.func35, Tryz.ntmps35
  go_wp2_with fail
  go_quiet (fail)
  go_wp2_with fail
  refine (HPK.out _).mono ?_
  rintro e w1 ⟨rfl, h1⟩
  obtain rfl := h1.symm
  by_cases hin : i < n
  · obtain ⟨⟨y0, y1, y2, y3⟩, hy⟩ : ∃ p, ps[i]? = some p := ⟨_, List.getElem?_eq_getElem (by rw [HR.out.2.2.1]; exact hin)⟩
    have HE : Hid (gNm ps qs k = y0) := by
      show _ = _
      rw [HG.out, List.getElem?_append_left (by rw [HR.out.2.2.1]; exact hin), hy]
    obtain ⟨bl, off, hao, hbl, d0, d1, d2, d3⟩ := pool_at HR.out.1 hy
    subst hao
    simp only at d0 d1 d2 d3
    have hii : (i : Int) < (n : Int) := by omega
    clear hy hi1
    go_wp2_with fail
    go_ret
    exact ⟨by rw [HE.out]; rfl, below_drewN (Below.refl _ _) _⟩
  · have hii : ¬ (i : Int) < (n : Int) := by omega
    by_cases him : i < n + m
    · obtain ⟨j, hj⟩ : ∃ j : Nat, i = n + j := ⟨i - n, by omega⟩
      subst hj
      obtain ⟨⟨y0, y1, y2, y3⟩, hy⟩ : ∃ p, qs[j]? = some p := ⟨_, List.getElem?_eq_getElem (by rw [HR.out.2.2.2]; omega)⟩
      have HE : Hid (gNm ps qs k = y0) := by
        show _ = _
        rw [HG.out, List.getElem?_append_right (by rw [HR.out.2.2.1]; omega), HR.out.2.2.1, Nat.add_sub_cancel_left, hy]
      obtain ⟨bl, off, hbo, hbl, d0, d1, d2, d3⟩ := pool_at HR.out.2.1 hy
      subst hbo
      simp only at d0 d1 d2 d3
      obtain ⟨i', hi'⟩ : ∃ i' : Int, ((n + j : Nat) : Int) = i' := ⟨_, rfl⟩
      have hx1 : ¬ i' < (n : Int) := by omega
      have hx2 : i' < (n : Int) + (m : Int) := by omega
      have hx3 : IntKind.i64.wrap (i' - (n : Int)) = (j : Int) := by rw [IntWalk.i64_in _ (by omega)]; omega
      have hx4 : (j : Int) < (m : Int) := by omega
      rw [hi']
      clear hy hi1 hii hin him hi'
      go_wp2_with fail
      go_quiet (fail)
      go_wp2_with fail
      go_ret
      exact ⟨by rw [HE.out]; rfl, below_drewN (below_drewN (Below.refl _ _) _) _⟩
    · have HE : Hid (gNm ps qs k = noneB) := by
        show _ = _
        rw [HG.out, List.getElem?_eq_none (by rw [List.length_append, HR.out.2.2.1, HR.out.2.2.2]; omega)]
      have hx2 : ¬ (i : Int) < (n : Int) + (m : Int) := by omega
      clear hi1 hin him
      go_wp2_with fail
      go_ret
      exact ⟨by rw [HE.out]; rfl, below_drewN (Below.refl _ _) _⟩
end Lw
end Go.Proofs.YtohbonfngeblkaaGreat
