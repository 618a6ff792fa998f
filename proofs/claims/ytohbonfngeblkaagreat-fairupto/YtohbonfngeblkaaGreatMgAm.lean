import Derived.Test.YtohbonfngeblkaaGreatMgAl
namespace Go.Proofs.YtohbonfngeblkaaGreat
open Go.RowKit
namespace Co
abbrev np (l : Ln) : Ln := { l with place := 0 }
theorem find_np : ∀ (ls : List Ln) (k : Nat) (nm : ByteArray), (findC ls k nm).map np = findC (ls.map np) k nm
  | [], _, _ => rfl
  | p :: r, k, nm => by
    have ih := find_np r k nm
    simp only [findC, List.map_cons, List.find?_cons] at ih ⊢
    cases (p.kind == k && p.name.toList == nm.toList) with
    | true => rfl
    | false => exact ih
theorem cnt_np (ls : List Ln) (k : Nat) : cntC (ls.map np) k = cntC ls k := by
  simp only [cntC, List.filter_map, List.length_map]
  rfl
theorem fault_np (ls : List Ln) (l : Ln) : faultC (ls.map np) l = faultC ls l := by
  unfold faultC manyC
  rw [cnt_np, ← find_np, Option.isSome_map, List.length_map]
theorem ch_np (ls : List Ln) : ∀ (f : Nat) (nm : ByteArray), (chC ls f nm).map np = chC (ls.map np) f nm
  | 0, _ => rfl
  | f + 1, nm => by
    rw [chC, chC, ← find_np]
    cases findC ls 2 nm with
    | none => rfl
    | some p => simp only [Option.map_some, List.map_cons]; rw [ch_np ls f]
theorem chv_np (key : Nat) (other : Int) : ∀ ls : List Ln, chvC key other (ls.map np) = chvC key other ls
  | [] => rfl
  | p :: r => by
    have ih := chv_np key other r
    simp only [List.map_cons, chvC] at ih ⊢
    rw [ih]
theorem val_np (key : Nat) (other : Int) (ss : List (Nat × Nat)) (ch : List Ln) : valC key other ss (ch.map np) = valC key other ss ch := by
  unfold valC
  rw [chv_np]
theorem pl_np (ls : List Ln) (l : Ln) : plC (ls.map np) (np l) = plC ls l := by
  unfold plC
  simp only
  rw [← ch_np, val_np, val_np, val_np]
theorem st_np (ls : List Ln) (x : Int × List Pl) (l : Ln) : stC (ls.map np) x (np l) = stC ls x l := by
  unfold stC
  rw [pl_np]
theorem tab_np (ls : List Ln) : tabC (ls.map np) = tabC ls := by
  unfold tabC
  rw [List.foldl_map]
  congr 1
  funext x l
  exact st_np ls x l
theorem lon_zero (all : List Ln) (most : Nat) : ∀ ls : List Ln, (∀ l ∈ ls, (chC all 7 l.frm).length ≤ most) → lonC all most ls = 0
  | [], _ => rfl
  | p :: r, h => by
    rw [lonC, if_neg (by have := h p List.mem_cons_self; omega)]
    exact lon_zero all most r (fun l hl => h l (List.mem_cons_of_mem _ hl))
theorem no_none (all : List Ln) : ∀ ls : List Ln, (∀ l ∈ ls, baC all l.frm = true) → noC all ls = none
  | [], _ => rfl
  | p :: r, h => by
    rw [noC, if_pos (h p List.mem_cons_self)]
    exact no_none all r (fun l hl => h l (List.mem_cons_of_mem _ hl))
def okA : List Ln → List Ln → Prop
  | _, [] => True
  | acc, l :: r => faultC acc l = 0 ∧ okA (acc ++ [l]) r
theorem okA_append : ∀ (a acc b : List Ln), okA acc a → okA (acc ++ a) b → okA acc (a ++ b)
  | [], acc, b, _, h => by simpa using h
  | l :: a, acc, b, h, h2 => by
    refine ⟨h.1, okA_append a (acc ++ [l]) b h.2 (by simpa using h2)⟩
def LnOf (fs : List (List UInt8)) (l : Ln) : Prop := fs ≠ [] ∧ (∀ f ∈ fs, Gd f) ∧ parseF (fs.map mk) = some l ∧ l.place = 0
theorem flds_of {s : ByteArray} {fs : List (List UInt8)} (h : fldL (tl s) = fs) : flds s = fs.map mk := by
  rw [← h, ← flds_list, List.map_map]
  symm
  refine (List.map_congr_left (fun p _ => ?_)).trans (List.map_id _)
  exact mk_tl p
theorem rdC_blank {i : Nat} {acc : List Ln} {p : ByteArray} {r : List ByteArray} (h : fldL (tl p) = []) : rdC i acc (p :: r) = rdC (i + 1) acc r := by
  rw [rdC, if_pos (by rw [flds_of h]; rfl)]
theorem rdC_line {i : Nat} {acc : List Ln} {p : ByteArray} {r : List ByteArray} {fs : List (List UInt8)} {l : Ln} (hl : LnOf fs l) (h : fldL (tl p) = fs) (hf : faultC acc l = 0) :
    rdC i acc (p :: r) = rdC (i + 1) (acc ++ [{ l with place := i + 1 }]) r := by
  have e := flds_of h
  have h0 : ¬ (flds p).length = 0 := by
    rw [e, List.length_map]
    intro h1
    exact hl.1 (List.length_eq_zero_iff.1 h1)
  rw [rdC, if_neg h0, e, hl.2.2.1]
  simp only
  rw [if_pos hf]
def bodies (st : Sty) (ls : List (List (List UInt8))) : List (List UInt8) := ls.flatMap fun fs => bodyL st fs :: blankL st
theorem spl_text (st : Sty) : ∀ ls : List (List (List UInt8)), (∀ fs ∈ ls, ∀ f ∈ fs, Gd f) → splL 10 [] (ls.flatMap (lineL st)) = bodies st ls ++ [[]]
  | [], _ => by simp [bodies, splL]
  | fs :: r, h => by
    rw [List.flatMap_cons, spl_line st fs (h fs List.mem_cons_self), spl_text st r (fun g hg => h g (List.mem_cons_of_mem _ hg))]
    simp [bodies]
theorem rdC_text (st : Sty) : ∀ (ps : List (List (List UInt8) × Ln)) (i : Nat) (acc : List Ln), (∀ p ∈ ps, LnOf p.1 p.2) → okA (acc.map np) (ps.map Prod.snd) → (acc ≠ [] ∨ ps ≠ []) →
    ∃ ls, rdC i acc ((bodies st (ps.map Prod.fst) ++ [[]]).map mk) = ⟨ls, 0, 0⟩ ∧ ls.map np = acc.map np ++ ps.map Prod.snd
  | [], i, acc, _, _, hne => by
    have hne : acc ≠ [] := by simpa using hne
    refine ⟨acc, ?_, by simp⟩
    have e : rdC i acc ((bodies st (([] : List (List (List UInt8) × Ln)).map Prod.fst) ++ [[]]).map mk) = rdC (i + 1) acc [] := rdC_blank (p := mk []) (r := []) (by rw [tl_mk, fldL_nil])
    rw [e, rdC, if_neg (fun h => hne (List.length_eq_zero_iff.1 h))]
  | q :: r, i, acc, h, ho, _ => by
    obtain ⟨fs, l⟩ := q
    have hq := h (fs, l) List.mem_cons_self
    simp only at hq
    have hp0 := hq.2.2.2
    simp only [List.map_cons, okA] at ho
    have hf : faultC acc l = 0 := by rw [← fault_np]; exact ho.1
    have enp : ∀ k, np { l with place := k } = l := by
      intro k
      cases l
      simp only at hp0
      subst hp0
      rfl
    have ho2 : okA ((acc ++ [{ l with place := i + 1 }]).map np) (r.map Prod.snd) := by
      rw [List.map_append, List.map_cons, enp, List.map_nil]; exact ho.2
    have hr : ∀ p ∈ r, LnOf p.1 p.2 := fun p hp => h p (List.mem_cons_of_mem _ hp)
    have hb : fldL (tl (mk (bodyL st fs))) = fs := by rw [tl_mk]; exact fld_body st fs hq.2.1
    have e1 : rdC i acc ((bodies st (((fs, l) :: r).map Prod.fst) ++ [[]]).map mk) = rdC (i + 1) (acc ++ [{ l with place := i + 1 }]) ((blankL st ++ (bodies st (r.map Prod.fst) ++ [[]])).map mk) := by
      have e0 : (bodies st (((fs, l) :: r).map Prod.fst) ++ [[]]).map mk = mk (bodyL st fs) :: ((blankL st ++ (bodies st (r.map Prod.fst) ++ [[]])).map mk) := by
        simp [bodies]
      rw [e0, rdC_line hq hb hf]
    have e2 : ∃ j, rdC (i + 1) (acc ++ [{ l with place := i + 1 }]) ((blankL st ++ (bodies st (r.map Prod.fst) ++ [[]])).map mk) = rdC j (acc ++ [{ l with place := i + 1 }]) ((bodies st (r.map Prod.fst) ++ [[]]).map mk) := by
      unfold blankL
      cases st.b3
      · exact ⟨i + 1, by simp⟩
      · refine ⟨i + 2, ?_⟩
        have : ((if true = true then [[(32 : UInt8)]] else []) ++ (bodies st (r.map Prod.fst) ++ [[]])).map mk = mk [32] :: ((bodies st (r.map Prod.fst) ++ [[]]).map mk) := by simp
        rw [this]
        exact rdC_blank (by rw [tl_mk, fldL_blank, fldL_nil])
    obtain ⟨j, e2⟩ := e2
    obtain ⟨ls, h1, h2⟩ := rdC_text st r j (acc ++ [{ l with place := i + 1 }]) hr ho2 (.inl (by simp))
    refine ⟨ls, by rw [e1, e2, h1], ?_⟩
    rw [h2, List.map_append, List.map_cons, enp]
    simp
theorem rd_text (st : Sty) (s : ByteArray) (ps : List (List (List UInt8) × Ln)) (hs : tl s = (ps.map Prod.fst).flatMap (lineL st)) (h : ∀ p ∈ ps, LnOf p.1 p.2) (ho : okA [] (ps.map Prod.snd)) (hne : ps ≠ []) :
    ∃ ls, rd s = ⟨ls, 0, 0⟩ ∧ ls.map np = ps.map Prod.snd := by
  have hg : ∀ fs ∈ ps.map Prod.fst, ∀ f ∈ fs, Gd f := by
    intro fs hfs
    obtain ⟨p, hp, rfl⟩ := List.mem_map.1 hfs
    exact (h p hp).2.1
  have e : pieces s 10 = (bodies st (ps.map Prod.fst) ++ [[]]).map mk := by
    rw [← spl_text st _ hg, ← hs, ← pieces_list s 10, List.map_map]
    symm
    refine (List.map_congr_left (fun p _ => ?_)).trans (List.map_id _)
    exact mk_tl p
  obtain ⟨ls, h1, h2⟩ := rdC_text st ps 0 [] h ho (.inr hne)
  exact ⟨ls, by rw [rd, e, h1], by simpa using h2⟩
end Co
end Go.Proofs.YtohbonfngeblkaaGreat
namespace Go.Proofs.YtohbonfngeblkaaGreat
open Go.RowKit
namespace Co
theorem lt_irr (a : ByteArray) : lt a a = false := by
  have := less_total a.toList a.toList
  unfold lt
  cases h : Op.bytesLess a.toList a.toList <;> simp [h] at this ⊢
theorem lt_asym {a b : ByteArray} (h : lt a b = true) : lt b a = false := by
  unfold lt at *
  have := less_total a.toList b.toList
  rw [h] at this
  cases h2 : Op.bytesLess b.toList a.toList <;> simp [h2] at this ⊢
theorem lt_ne {a b : ByteArray} (h : lt a b = true) : a ≠ b := by
  rintro rfl
  rw [lt_irr] at h
  exact absurd h (by simp)
theorem insP_end (p : Pl) : ∀ l : List Pl, (∀ q ∈ l, lt q.nm p.nm = true) → insP p l = l ++ [p]
  | [], _ => rfl
  | q :: r, h => by
    rw [insP, if_neg (by rw [lt_asym (h q List.mem_cons_self)]; simp), insP_end p r (fun x hx => h x (List.mem_cons_of_mem _ hx))]
    rfl
theorem ins_all : ∀ (ps acc : List Pl), (acc ++ ps).Pairwise (fun a b => lt a.nm b.nm = true) → ps.foldl (fun a p => insP p a) acc = acc ++ ps
  | [], acc, _ => by simp
  | p :: r, acc, h => by
    have h1 : ∀ q ∈ acc, lt q.nm p.nm = true := fun q hq => (List.pairwise_append.1 h).2.2 q hq p List.mem_cons_self
    rw [List.foldl_cons, insP_end p acc h1, ins_all r (acc ++ [p]) (by simpa using h)]
    simp
theorem ins_rev : ∀ (ps : List Pl), ps.Pairwise (fun a b => lt a.nm b.nm = true) → ps.foldr (fun p a => insP p a) [] = ps
  | [], _ => rfl
  | p :: r, h => by
    rw [List.foldr_cons, ins_rev r (List.pairwise_cons.1 h).2]
    cases r with
    | nil => rfl
    | cons q r => rw [insP, if_pos ((List.pairwise_cons.1 h).1 q List.mem_cons_self)]
theorem fault_no {acc : List Ln} {l : Ln} (hacc : acc ≠ []) (hk : l.kind = 2 ∨ l.kind = 3) (hfit : allFit l.sets = true) (hcnt : cntC acc l.kind < 6) (htw : twc l.sets = false)
    (hf : ∀ x ∈ acc, x.kind = l.kind → x.name ≠ l.name) : faultC acc l = 0 := by
  have h1 : ¬ acc.length = 0 := fun h => hacc (List.length_eq_zero_iff.1 h)
  have h2 : ¬ l.kind = 1 := by omega
  have h3 : findC acc l.kind l.name = none := by
    unfold findC
    rw [List.find?_eq_none]
    intro x hx
    simp only [Bool.and_eq_true, beq_iff_eq, not_and]
    intro hxk hn
    refine hf x hx hxk (ba_ext ?_)
    rw [tl_toList, tl_toList] at hn
    exact hn
  unfold faultC manyC
  have h4 : ¬ (6 ≤ cntC acc l.kind) := by omega
  simp [h1, h2, hfit, h4, htw, h3]
theorem cntC_snoc (acc : List Ln) (l : Ln) (k : Nat) : cntC (acc ++ [l]) k = cntC acc k + if l.kind = k then 1 else 0 := by
  unfold cntC
  rw [List.filter_append, List.length_append]
  congr 1
  by_cases h : l.kind = k <;> simp [h]
theorem inB_nat {lo hi : Int} {n : Int} (h0 : 0 ≤ n) (h1 : lo ≤ n) (h2 : n ≤ hi) : inB lo hi (n.toNat : Int) = true := by
  simp only [inB, Bool.and_eq_true, decide_eq_true_eq]; omega
theorem fit_s {p : Pl} (h : Okp p) : fitsK 0 (p.sz.toNat : Int) = true := inB_nat h.s0 h.s0 h.s1
theorem fit_w {p : Pl} (h : Okp p) : fitsK 1 (p.wt.toNat : Int) = true := inB_nat h.w0 h.w0 h.w1
theorem fit_f {p : Pl} (h : Okp p) : fitsK 2 (p.fr.toNat : Int) = true := inB_nat h.f0 h.f0 h.f1
theorem wd0 : (wordB 0).toList = wSize := mkL _
theorem wd1 : (wordB 1).toList = wWait := mkL _
theorem wd2 : (wordB 2).toList = wFar := mkL _
theorem wd3 : (wordB 3).toList = wBudget := mkL _
theorem fit3 : fitsK 2 ((3 : Nat) : Int) = true := by decide
theorem ok_bud {b : Int} (h1 : 1 ≤ b) (h2 : b ≤ 99) : faultC [] (lnBud b) = 0 := by
  have hf : fitsK 3 (b.toNat : Int) = true := inB_nat (by omega) h1 h2
  simp [-Int.ofNat_toNat, faultC, lnBud, allFit, hf, manyC, twc, findC]
theorem fit_pool (st : Sty) {p : Pl} (h : Okp p) : allFit (lnPool st p).sets = true ∧ twc (lnPool st p).sets = false := by
  unfold lnPool
  cases st.b7 <;> simp [-Int.ofNat_toNat, allFit, twc, fit_s h, fit_w h, fit_f h, wd0, wd1, wd2]
theorem fit_from {p : Pl} (h : Okp p) : allFit (lnFrom p).sets = true ∧ twc (lnFrom p).sets = false := by
  simp [-Int.ofNat_toNat, lnFrom, allFit, twc, fit_w h, fit_f h, wd1, wd2]
theorem fit_base (st : Sty) (last : ByteArray) {p : Pl} (h : Okp p) : allFit (lnBase st last p).sets = true ∧ twc (lnBase st last p).sets = false := by
  have := fit3
  unfold lnBase
  cases frB st last p <;> simp [-Int.ofNat_toNat, allFit, twc, fit_s h, wd0, wd2] <;> exact this
def grp (st : Sty) (last : ByteArray) (p : Pl) : List (List (List UInt8) × Ln) :=
  if st.b5 = false then [(fsPool st p, lnPool st p)]
  else if st.b8 = true then [(fsFrom st p, lnFrom p), (fsBase st last p, lnBase st last p)]
  else [(fsBase st last p, lnBase st last p), (fsFrom st p, lnFrom p)]
def grpN (st : Sty) (last : ByteArray) (p : Pl) : List Ln := (grp st last p).map Prod.snd
theorem grpN_eq (st : Sty) (last : ByteArray) (p : Pl) : grpN st last p = if st.b5 = false then [lnPool st p] else if st.b8 = true then [lnFrom p, lnBase st last p] else [lnBase st last p, lnFrom p] := by
  unfold grpN grp
  cases st.b5 <;> cases st.b8 <;> rfl
theorem ok_pools (st : Sty) (last : ByteArray) : ∀ (ps : List Pl) (acc : List Ln), acc ≠ [] → ps.Pairwise (fun a b => a.nm ≠ b.nm) → (∀ l ∈ acc, ∀ p ∈ ps, (l.kind = 2 ∨ l.kind = 3) → l.name ≠ p.nm) →
    cntC acc 2 + ps.length ≤ 6 → cntC acc 3 + ps.length ≤ 6 → (∀ p ∈ ps, Okp p) → okA acc (ps.flatMap (grpN st last))
  | [], _, _, _, _, _, _, _ => trivial
  | p :: r, acc, hne, hpw, hnm, h2, h3, hok => by
    have hp := hok p List.mem_cons_self
    have hd : ∀ q ∈ r, p.nm ≠ q.nm := (List.pairwise_cons.1 hpw).1
    have hmine : ∀ l ∈ acc, (l.kind = 2 ∨ l.kind = 3) → l.name ≠ p.nm := fun l hl hk => hnm l hl p List.mem_cons_self hk
    have hrest : ∀ l ∈ acc, ∀ q ∈ r, (l.kind = 2 ∨ l.kind = 3) → l.name ≠ q.nm := fun l hl q hq hk => hnm l hl q (List.mem_cons_of_mem _ hq) hk
    simp only [List.length_cons] at h2 h3
    have hokr : ∀ q ∈ r, Okp q := fun q hq => hok q (List.mem_cons_of_mem _ hq)
    rw [List.flatMap_cons]
    have pool1 : ∀ (a : List Ln), a ≠ [] → cntC a 3 < 6 → (∀ x ∈ a, x.kind = 3 → x.name ≠ p.nm) → faultC a (lnPool st p) = 0 := fun a h1 h2 h3 => fault_no h1 (.inr rfl) (fit_pool st hp).1 h2 (fit_pool st hp).2 h3
    have from1 : ∀ (a : List Ln), a ≠ [] → cntC a 3 < 6 → (∀ x ∈ a, x.kind = 3 → x.name ≠ p.nm) → faultC a (lnFrom p) = 0 := fun a h1 h2 h3 => fault_no h1 (.inr rfl) (fit_from hp).1 h2 (fit_from hp).2 h3
    have base1 : ∀ (a : List Ln), a ≠ [] → cntC a 2 < 6 → (∀ x ∈ a, x.kind = 2 → x.name ≠ p.nm) → faultC a (lnBase st last p) = 0 := fun a h1 h2 h3 => fault_no h1 (.inl rfl) (fit_base st last hp).1 h2 (fit_base st last hp).2 h3
    have kp : (lnPool st p).kind = 3 := rfl
    have kf : (lnFrom p).kind = 3 := rfl
    have kb : (lnBase st last p).kind = 2 := rfl
    have np : (lnPool st p).name = p.nm := rfl
    have nf : (lnFrom p).name = p.nm := rfl
    have nb : (lnBase st last p).name = p.nm := rfl
    refine okA_append _ _ _ ?_ ?_
    · rw [grpN_eq]
      cases st.b5 with
      | false => exact ⟨pool1 acc hne (by omega) (fun x hx hk => hmine x hx (.inr hk)), trivial⟩
      | true =>
        cases st.b8 with
        | true =>
          refine ⟨from1 acc hne (by omega) (fun x hx hk => hmine x hx (.inr hk)), base1 _ (by simp) (by rw [cntC_snoc, kf]; simp; omega) ?_, trivial⟩
          intro x hx hk
          rcases List.mem_append.1 hx with hx | hx
          · exact hmine x hx (.inl hk)
          · simp at hx; subst hx; rw [kf] at hk; omega
        | false =>
          refine ⟨base1 acc hne (by omega) (fun x hx hk => hmine x hx (.inl hk)), from1 _ (by simp) (by rw [cntC_snoc, kb]; simp; omega) ?_, trivial⟩
          intro x hx hk
          rcases List.mem_append.1 hx with hx | hx
          · exact hmine x hx (.inr hk)
          · simp at hx; subst hx; rw [kb] at hk; omega
    · have hc : cntC (acc ++ grpN st last p) 2 ≤ cntC acc 2 + 1 ∧ cntC (acc ++ grpN st last p) 3 ≤ cntC acc 3 + 1 ∧ ∀ x ∈ grpN st last p, x.name = p.nm := by
        rw [grpN_eq]
        cases st.b5 with
        | false => simp [cntC_snoc, kp, np]
        | true =>
          cases st.b8 with
          | true =>
            have e : ∀ x y : Ln, acc ++ [x, y] = acc ++ [x] ++ [y] := by simp
            simp only [reduceIte, Bool.true_eq_false, e, cntC_snoc, kf, kb]
            simp [nf, nb]
          | false =>
            have e : ∀ x y : Ln, acc ++ [x, y] = acc ++ [x] ++ [y] := by simp
            simp only [reduceIte, Bool.true_eq_false, Bool.false_eq_true, e, cntC_snoc, kf, kb]
            simp [nf, nb]
      refine ok_pools st last r _ (by simp [hne]) (List.pairwise_cons.1 hpw).2 ?_ (by omega) (by omega) hokr
      intro l hl q hq hk
      rcases List.mem_append.1 hl with hl | hl
      · exact hrest l hl q hq hk
      · rw [hc.2.2 l hl]; exact hd q hq
end Co
end Go.Proofs.YtohbonfngeblkaaGreat
