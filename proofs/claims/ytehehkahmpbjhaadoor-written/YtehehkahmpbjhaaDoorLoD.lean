
import Derived.Test.YtehehkahmpbjhaaDoorLoC
namespace Go.Proofs.YtehehkahmpbjhaaDoor
open Go.RowKit
namespace Co
theorem lt_irr (a : ByteArray) : lt a a = false := by
  have := less_total a.toList a.toList
  unfold lt
  cases h : Op.bytesLess a.toList a.toList <;> simp [h] at this ⊢
theorem lt_asym {a b : ByteArray} (h : lt a b = true) : lt b a = false := by
  unfold lt at *
  have := less_total a.toList b.toList
  rw [h] at this
  cases h2 : Op.bytesLess b.toList a.toList <;> simp [h2] at this ⊢
theorem lt_ne {a b : ByteArray} (h : lt a b = true) : a ≠ b := by
  rintro rfl
  rw [lt_irr] at h
  exact absurd h (by simp)
theorem insP_end (p : Pl) : ∀ l : List Pl, (∀ q ∈ l, lt q.nm p.nm = true) → insP p l = l ++ [p]
  | [], _ => rfl
  | q :: r, h => by
    rw [insP, if_neg (by rw [lt_asym (h q List.mem_cons_self)]; simp), insP_end p r (fun x hx => h x (List.mem_cons_of_mem _ hx))]
    rfl
theorem ins_all : ∀ (ps acc : List Pl), (acc ++ ps).Pairwise (fun a b => lt a.nm b.nm = true) → ps.foldl (fun a p => insP p a) acc = acc ++ ps
  | [], acc, _ => by simp
  | p :: r, acc, h => by
    have h1 : ∀ q ∈ acc, lt q.nm p.nm = true := fun q hq => (List.pairwise_append.1 h).2.2 q hq p List.mem_cons_self
    rw [List.foldl_cons, insP_end p acc h1, ins_all r (acc ++ [p]) (by simpa using h)]
    simp
theorem ins_rev : ∀ (ps : List Pl), ps.Pairwise (fun a b => lt a.nm b.nm = true) → ps.foldr (fun p a => insP p a) [] = ps
  | [], _ => rfl
  | p :: r, h => by
    rw [List.foldr_cons, ins_rev r (List.pairwise_cons.1 h).2]
    cases r with
    | nil => rfl
    | cons q r => rw [insP, if_pos ((List.pairwise_cons.1 h).1 q List.mem_cons_self)]
theorem fault_no {acc : List Ln} {l : Ln} (hacc : acc ≠ []) (hk : l.kind = 2 ∨ l.kind = 3) (hfit : allFit l.sets = true) (hcnt : cntC acc l.kind < 6) (htw : twc l.sets = false)
    (hf : ∀ x ∈ acc, x.kind = l.kind → x.name ≠ l.name) : faultC acc l = 0 := by
  have h1 : ¬ acc.length = 0 := fun h => hacc (List.length_eq_zero_iff.1 h)
  have h2 : ¬ l.kind = 1 := by omega
  have h3 : findC acc l.kind l.name = none := by
    unfold findC
    rw [List.find?_eq_none]
    intro x hx
    simp only [Bool.and_eq_true, beq_iff_eq, not_and]
    intro hxk hn
    refine hf x hx hxk (ba_ext ?_)
    rw [tl_toList, tl_toList] at hn
    exact hn
  unfold faultC manyC
  have h4 : ¬ (6 ≤ cntC acc l.kind) := by omega
  simp [h1, h2, hfit, h4, htw, h3]
theorem cntC_snoc (acc : List Ln) (l : Ln) (k : Nat) : cntC (acc ++ [l]) k = cntC acc k + if l.kind = k then 1 else 0 := by
  unfold cntC
  rw [List.filter_append, List.length_append]
  congr 1
  by_cases h : l.kind = k <;> simp [h]
theorem inB_nat {lo hi : Int} {n : Int} (h0 : 0 ≤ n) (h1 : lo ≤ n) (h2 : n ≤ hi) : inB lo hi (n.toNat : Int) = true := by
  simp only [inB, Bool.and_eq_true, decide_eq_true_eq]; omega
theorem fit_s {p : Pl} (h : Okp p) : fitsK 0 (p.sz.toNat : Int) = true := inB_nat h.s0 h.s0 h.s1
theorem fit_w {p : Pl} (h : Okp p) : fitsK 1 (p.wt.toNat : Int) = true := inB_nat h.w0 h.w0 h.w1
theorem fit_f {p : Pl} (h : Okp p) : fitsK 2 (p.fr.toNat : Int) = true := inB_nat h.f0 h.f0 h.f1
theorem wd0 : (wordB 0).toList = wSize := mkL _
theorem wd1 : (wordB 1).toList = wWait := mkL _
theorem wd2 : (wordB 2).toList = wFar := mkL _
theorem wd3 : (wordB 3).toList = wBudget := mkL _
theorem fit3 : fitsK 2 ((3 : Nat) : Int) = true := by decide
theorem ok_bud {b : Int} (h1 : 1 ≤ b) (h2 : b ≤ 99) : faultC [] (lnBud b) = 0 := by
  have hf : fitsK 3 (b.toNat : Int) = true := inB_nat (by omega) h1 h2
  simp [-Int.ofNat_toNat, faultC, lnBud, allFit, hf, manyC, twc, findC]
theorem fit_pool (st : Sty) {p : Pl} (h : Okp p) : allFit (lnPool st p).sets = true ∧ twc (lnPool st p).sets = false := by
  unfold lnPool
  cases st.b7 <;> simp [-Int.ofNat_toNat, allFit, twc, fit_s h, fit_w h, fit_f h, wd0, wd1, wd2]
theorem fit_from {p : Pl} (h : Okp p) : allFit (lnFrom p).sets = true ∧ twc (lnFrom p).sets = false := by
  simp [-Int.ofNat_toNat, lnFrom, allFit, twc, fit_w h, fit_f h, wd1, wd2]
theorem fit_base (st : Sty) (last : ByteArray) {p : Pl} (h : Okp p) : allFit (lnBase st last p).sets = true ∧ twc (lnBase st last p).sets = false := by
  have := fit3
  unfold lnBase
  cases frB st last p <;> simp [-Int.ofNat_toNat, allFit, twc, fit_s h, wd0, wd2] <;> exact this
/-- a pool's lines, and what they are -/
def grp (st : Sty) (last : ByteArray) (p : Pl) : List (List (List UInt8) × Ln) :=
  if st.b5 = false then [(fsPool st p, lnPool st p)]
  else if st.b8 = true then [(fsFrom st p, lnFrom p), (fsBase st last p, lnBase st last p)]
  else [(fsBase st last p, lnBase st last p), (fsFrom st p, lnFrom p)]
def grpN (st : Sty) (last : ByteArray) (p : Pl) : List Ln := (grp st last p).map Prod.snd
theorem grpN_eq (st : Sty) (last : ByteArray) (p : Pl) : grpN st last p = if st.b5 = false then [lnPool st p] else if st.b8 = true then [lnFrom p, lnBase st last p] else [lnBase st last p, lnFrom p] := by
  unfold grpN grp
  cases st.b5 <;> cases st.b8 <;> rfl
theorem ok_pools (st : Sty) (last : ByteArray) : ∀ (ps : List Pl) (acc : List Ln), acc ≠ [] → ps.Pairwise (fun a b => a.nm ≠ b.nm) → (∀ l ∈ acc, ∀ p ∈ ps, (l.kind = 2 ∨ l.kind = 3) → l.name ≠ p.nm) →
    cntC acc 2 + ps.length ≤ 6 → cntC acc 3 + ps.length ≤ 6 → (∀ p ∈ ps, Okp p) → okA acc (ps.flatMap (grpN st last))
  | [], _, _, _, _, _, _, _ => trivial
  | p :: r, acc, hne, hpw, hnm, h2, h3, hok => by
    have hp := hok p List.mem_cons_self
    have hd : ∀ q ∈ r, p.nm ≠ q.nm := (List.pairwise_cons.1 hpw).1
    have hmine : ∀ l ∈ acc, (l.kind = 2 ∨ l.kind = 3) → l.name ≠ p.nm := fun l hl hk => hnm l hl p List.mem_cons_self hk
    have hrest : ∀ l ∈ acc, ∀ q ∈ r, (l.kind = 2 ∨ l.kind = 3) → l.name ≠ q.nm := fun l hl q hq hk => hnm l hl q (List.mem_cons_of_mem _ hq) hk
    simp only [List.length_cons] at h2 h3
    have hokr : ∀ q ∈ r, Okp q := fun q hq => hok q (List.mem_cons_of_mem _ hq)
    rw [List.flatMap_cons]
    have pool1 : ∀ (a : List Ln), a ≠ [] → cntC a 3 < 6 → (∀ x ∈ a, x.kind = 3 → x.name ≠ p.nm) → faultC a (lnPool st p) = 0 := fun a h1 h2 h3 => fault_no h1 (.inr rfl) (fit_pool st hp).1 h2 (fit_pool st hp).2 h3
    have from1 : ∀ (a : List Ln), a ≠ [] → cntC a 3 < 6 → (∀ x ∈ a, x.kind = 3 → x.name ≠ p.nm) → faultC a (lnFrom p) = 0 := fun a h1 h2 h3 => fault_no h1 (.inr rfl) (fit_from hp).1 h2 (fit_from hp).2 h3
    have base1 : ∀ (a : List Ln), a ≠ [] → cntC a 2 < 6 → (∀ x ∈ a, x.kind = 2 → x.name ≠ p.nm) → faultC a (lnBase st last p) = 0 := fun a h1 h2 h3 => fault_no h1 (.inl rfl) (fit_base st last hp).1 h2 (fit_base st last hp).2 h3
    have kp : (lnPool st p).kind = 3 := rfl
    have kf : (lnFrom p).kind = 3 := rfl
    have kb : (lnBase st last p).kind = 2 := rfl
    have np : (lnPool st p).name = p.nm := rfl
    have nf : (lnFrom p).name = p.nm := rfl
    have nb : (lnBase st last p).name = p.nm := rfl
    refine okA_append _ _ _ ?_ ?_
    · rw [grpN_eq]
      cases st.b5 with
      | false => exact ⟨pool1 acc hne (by omega) (fun x hx hk => hmine x hx (.inr hk)), trivial⟩
      | true =>
        cases st.b8 with
        | true =>
          refine ⟨from1 acc hne (by omega) (fun x hx hk => hmine x hx (.inr hk)), base1 _ (by simp) (by rw [cntC_snoc, kf]; simp; omega) ?_, trivial⟩
          intro x hx hk
          rcases List.mem_append.1 hx with hx | hx
          · exact hmine x hx (.inl hk)
          · simp at hx; subst hx; rw [kf] at hk; omega
        | false =>
          refine ⟨base1 acc hne (by omega) (fun x hx hk => hmine x hx (.inl hk)), from1 _ (by simp) (by rw [cntC_snoc, kb]; simp; omega) ?_, trivial⟩
          intro x hx hk
          rcases List.mem_append.1 hx with hx | hx
          · exact hmine x hx (.inr hk)
          · simp at hx; subst hx; rw [kb] at hk; omega
    · have hc : cntC (acc ++ grpN st last p) 2 ≤ cntC acc 2 + 1 ∧ cntC (acc ++ grpN st last p) 3 ≤ cntC acc 3 + 1 ∧ ∀ x ∈ grpN st last p, x.name = p.nm := by
        rw [grpN_eq]
        cases st.b5 with
        | false => simp [cntC_snoc, kp, np]
        | true =>
          cases st.b8 with
          | true =>
            have e : ∀ x y : Ln, acc ++ [x, y] = acc ++ [x] ++ [y] := by simp
            simp only [reduceIte, Bool.true_eq_false, e, cntC_snoc, kf, kb]
            simp [nf, nb]
          | false =>
            have e : ∀ x y : Ln, acc ++ [x, y] = acc ++ [x] ++ [y] := by simp
            simp only [reduceIte, Bool.true_eq_false, Bool.false_eq_true, e, cntC_snoc, kf, kb]
            simp [nf, nb]
      refine ok_pools st last r _ (by simp [hne]) (List.pairwise_cons.1 hpw).2 ?_ (by omega) (by omega) hokr
      intro l hl q hq hk
      rcases List.mem_append.1 hl with hl | hl
      · exact hrest l hl q hq hk
      · rw [hc.2.2 l hl]; exact hd q hq
end Co
end Go.Proofs.YtehehkahmpbjhaaDoor
