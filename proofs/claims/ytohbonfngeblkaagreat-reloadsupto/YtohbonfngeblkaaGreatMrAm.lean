import Derived.Test.YtohbonfngeblkaaGreatMrAk
import Derived.Test.YtohbonfngeblkaaGreatMrAl
namespace Go.Proofs.YtohbonfngeblkaaGreat
open Go.RowKit
namespace Df
open Co Lw
abbrev Up (l : List Pl) : Prop := l.Pairwise (fun a b => lt a.nm b.nm = true)
def lk (l : List Pl) (nm : ByteArray) : Option Pl := l.find? (isNameP nm)
theorem isN_eq {nm : ByteArray} {p : Pl} : isNameP nm p = true ↔ p.nm = nm := by
  constructor
  · intro h; exact bytes_eq h
  · rintro rfl; simp [isNameP]
theorem isN_ne {nm : ByteArray} {p : Pl} (h : p.nm ≠ nm) : isNameP nm p = false := by
  cases h2 : isNameP nm p with
  | false => rfl
  | true => exact absurd (isN_eq.1 h2) h
theorem lk_nm {l : List Pl} {nm : ByteArray} {p : Pl} (h : lk l nm = some p) : p.nm = nm := isN_eq.1 (List.find?_some h)
theorem lk_mem {l : List Pl} {nm : ByteArray} {p : Pl} (h : lk l nm = some p) : p ∈ l := List.mem_of_find?_eq_some h
theorem lk_none {l : List Pl} {nm : ByteArray} : lk l nm = none ↔ ∀ p ∈ l, p.nm ≠ nm := by
  unfold lk
  rw [List.find?_eq_none]
  constructor
  · intro h p hp e; exact h p hp (isN_eq.2 e)
  · intro h p hp e; exact h p hp (isN_eq.1 e)
theorem lk_cons_eq {x : Pl} {l : List Pl} {nm : ByteArray} (h : x.nm = nm) : lk (x :: l) nm = some x := List.find?_cons_of_pos (isN_eq.2 h)
theorem lk_cons_ne {x : Pl} {l : List Pl} {nm : ByteArray} (h : x.nm ≠ nm) : lk (x :: l) nm = lk l nm := List.find?_cons_of_neg (by rw [isN_ne h]; simp)
theorem lk_of_mem : ∀ {l : List Pl}, Up l → ∀ {x : Pl}, x ∈ l → lk l x.nm = some x
  | [], _, x, hx => by simp at hx
  | y :: r, hu, x, hx => by
    rcases List.mem_cons.1 hx with rfl | hx
    · exact lk_cons_eq rfl
    · rw [lk_cons_ne (lt_ne ((List.pairwise_cons.1 hu).1 x hx)), lk_of_mem (List.pairwise_cons.1 hu).2 hx]
theorem up_ext : ∀ {l l' : List Pl}, Up l → Up l' → (∀ nm, lk l nm = lk l' nm) → l = l'
  | [], [], _, _, _ => rfl
  | [], y :: r, _, _, h => by
    have := h y.nm
    rw [lk_cons_eq rfl] at this
    simp [lk] at this
  | x :: r, [], _, _, h => by
    have := h x.nm
    rw [lk_cons_eq rfl] at this
    simp [lk] at this
  | x :: r, y :: r', h1, h2, h => by
    have hx : lk (y :: r') x.nm = some x := by rw [← h, lk_cons_eq rfl]
    have hy : lk (x :: r) y.nm = some y := by rw [h, lk_cons_eq rfl]
    obtain ⟨a1, b1⟩ := List.pairwise_cons.1 h1
    obtain ⟨a2, b2⟩ := List.pairwise_cons.1 h2
    have e : x = y := by
      rcases List.mem_cons.1 (lk_mem hx) with e | hm
      · exact e
      · rcases List.mem_cons.1 (lk_mem hy) with e | hm'
        · exact e.symm
        · have c1 := a2 x hm
          have c2 := a1 y hm'
          rw [lt_asym c1] at c2
          exact absurd c2 (by simp)
    subst e
    congr 1
    refine up_ext b1 b2 (fun nm => ?_)
    by_cases hn : x.nm = nm
    · rw [lk_none.2 (fun p hp e => lt_ne (a1 p hp) (hn.trans e.symm)), lk_none.2 (fun p hp e => lt_ne (a2 p hp) (hn.trans e.symm))]
    · have := h nm
      rwa [lk_cons_ne hn, lk_cons_ne hn] at this
theorem up_len : ∀ {l' l : List Pl}, Up l → Up l' → (∀ x ∈ l, ∃ y ∈ l', y.nm = x.nm) → l.length ≤ l'.length
  | [], l, _, _, h => by
    cases l with
    | nil => simp
    | cons x r => obtain ⟨y, hy, _⟩ := h x (by simp); simp at hy
  | y :: r', [], _, _, _ => by simp
  | y :: r', x :: r, h1, h2, h => by
    obtain ⟨a1, b1⟩ := List.pairwise_cons.1 h1
    obtain ⟨a2, b2⟩ := List.pairwise_cons.1 h2
    by_cases e : y.nm = x.nm
    · have := up_len (l' := r') (l := r) b1 b2 (fun z hz => by
        obtain ⟨u, hu, he⟩ := h z (by simp [hz])
        rcases List.mem_cons.1 hu with rfl | hu
        · exact absurd (e.symm.trans he) (lt_ne (a1 z hz))
        · exact ⟨u, hu, he⟩)
      simp; omega
    · have := up_len (l' := r') (l := x :: r) h1 b2 (fun z hz => by
        obtain ⟨u, hu, he⟩ := h z hz
        rcases List.mem_cons.1 hu with rfl | hu
        · exfalso
          obtain ⟨v, hv, hve⟩ := h x (by simp)
          rcases List.mem_cons.1 hv with rfl | hv
          · exact e hve
          · have c1 := a2 v hv
            rw [hve] at c1
            rcases List.mem_cons.1 hz with rfl | hz
            · exact e he
            · have c2 := a1 z hz
              rw [← he] at c2
              rw [lt_asym c1] at c2
              exact absurd c2 (by simp)
        · exact ⟨u, hu, he⟩)
      simp at this ⊢; omega
def updT (nm : ByteArray) (f : Pl → Pl) (ts : List Pl) : List Pl := ts.map (fun p => if isNameP nm p = true then f p else p)
def dropT (nm : ByteArray) (ts : List Pl) : List Pl := ts.filter (fun p => !isNameP nm p)
theorem lk_upd {f : Pl → Pl} (hf : ∀ p, (f p).nm = p.nm) (nm m : ByteArray) : ∀ (ts : List Pl), lk (updT nm f ts) m = if nm = m then (lk ts m).map f else lk ts m
  | [] => by simp [lk, updT]
  | x :: r => by
    have ih := lk_upd hf nm m r
    have e : updT nm f (x :: r) = (if isNameP nm x = true then f x else x) :: updT nm f r := rfl
    have hn : (if isNameP nm x = true then f x else x).nm = x.nm := by split <;> simp [hf]
    rw [e]
    by_cases hx : x.nm = m
    · rw [lk_cons_eq (hn.trans hx), lk_cons_eq hx]
      by_cases h : nm = m
      · rw [if_pos h, if_pos (isN_eq.2 (hx.trans h.symm))]; rfl
      · rw [if_neg h, if_neg (by rw [isN_eq]; exact fun e => h (e.symm.trans hx))]
    · rw [lk_cons_ne (by rw [hn]; exact hx), lk_cons_ne hx, ih]
theorem up_upd {f : Pl → Pl} (hf : ∀ p, (f p).nm = p.nm) (nm : ByteArray) {ts : List Pl} (h : Up ts) : Up (updT nm f ts) := by
  unfold Up updT
  rw [List.pairwise_map]
  refine List.Pairwise.imp ?_ h
  intro a b hab
  have ha : (if isNameP nm a = true then f a else a).nm = a.nm := by split <;> simp [hf]
  have hb : (if isNameP nm b = true then f b else b).nm = b.nm := by split <;> simp [hf]
  rw [ha, hb]; exact hab
theorem set_upd (nm : ByteArray) (f : Pl → Pl) : ∀ {ts : List Pl} {k : Nat} {x : Pl}, Up ts → ts[k]? = some x → x.nm = nm → ts.set k (f x) = updT nm f ts
  | [], k, x, _, h, _ => by simp at h
  | y :: r, 0, x, hu, h, hn => by
    obtain rfl : y = x := by simpa using h
    have e : updT nm f (y :: r) = (if isNameP nm y = true then f y else y) :: updT nm f r := rfl
    rw [e, if_pos (isN_eq.2 hn)]
    have e2 : updT nm f r = r := by
      unfold updT
      conv => rhs; rw [← List.map_id r]
      refine List.map_congr_left (fun p hp => ?_)
      rw [if_neg (by rw [isN_eq]; exact fun e => lt_ne ((List.pairwise_cons.1 hu).1 p hp) (hn.trans e.symm))]; rfl
    rw [e2]; rfl
  | y :: r, k + 1, x, hu, h, hn => by
    have hx : r[k]? = some x := by simpa using h
    have e : updT nm f (y :: r) = (if isNameP nm y = true then f y else y) :: updT nm f r := rfl
    rw [e, if_neg (by rw [isN_eq]; exact fun e => lt_ne ((List.pairwise_cons.1 hu).1 x (List.mem_of_getElem? hx)) (e.trans hn.symm)), List.set_cons_succ, set_upd nm f (List.pairwise_cons.1 hu).2 hx hn]
theorem lk_drop (nm m : ByteArray) : ∀ (ts : List Pl), lk (dropT nm ts) m = if nm = m then none else lk ts m
  | [] => by simp [lk, dropT]
  | x :: r => by
    have ih := lk_drop nm m r
    unfold dropT at ih ⊢
    by_cases hx : x.nm = nm
    · rw [List.filter_cons_of_neg (by rw [isN_eq.2 hx]; simp), ih]
      by_cases h : nm = m
      · rw [if_pos h, if_pos h]
      · rw [if_neg h, if_neg h, lk_cons_ne (fun e => h (hx.symm.trans e))]
    · rw [List.filter_cons_of_pos (by rw [isN_ne hx]; rfl)]
      by_cases hm : x.nm = m
      · rw [lk_cons_eq hm, lk_cons_eq hm, if_neg (fun e => hx (hm.trans e.symm))]
      · rw [lk_cons_ne hm, lk_cons_ne hm, ih]
theorem up_drop (nm : ByteArray) {ts : List Pl} (h : Up ts) : Up (dropT nm ts) := List.Pairwise.filter _ h
theorem erase_drop (nm : ByteArray) : ∀ {ts : List Pl} {k : Nat} {x : Pl}, Up ts → ts[k]? = some x → x.nm = nm → ts.take k ++ ts.drop (k + 1) = dropT nm ts
  | [], k, x, _, h, _ => by simp at h
  | y :: r, 0, x, hu, h, hn => by
    obtain rfl : y = x := by simpa using h
    unfold dropT
    rw [List.filter_cons_of_neg (by rw [isN_eq.2 hn]; simp)]
    have e2 : r.filter (fun p => !isNameP nm p) = r := by
      rw [List.filter_eq_self]
      intro p hp
      rw [isN_ne (fun e => lt_ne ((List.pairwise_cons.1 hu).1 p hp) (hn.trans e.symm))]; rfl
    rw [e2]; rfl
  | y :: r, k + 1, x, hu, h, hn => by
    have hx : r[k]? = some x := by simpa using h
    have ih := erase_drop nm (List.pairwise_cons.1 hu).2 hx hn
    unfold dropT at ih ⊢
    rw [List.filter_cons_of_pos (by rw [isN_ne (fun e => lt_ne ((List.pairwise_cons.1 hu).1 x (List.mem_of_getElem? hx)) (e.trans hn.symm))]; rfl), ← ih]
    rfl
theorem lk_ins (p : Pl) (m : ByteArray) : ∀ (ts : List Pl), lk ts p.nm = none → lk (insP p ts) m = if p.nm = m then some p else lk ts m
  | [], _ => by
    by_cases h : p.nm = m
    · rw [if_pos h]; exact lk_cons_eq h
    · rw [if_neg h]; exact lk_cons_ne h
  | q :: r, hn => by
    have hq : q.nm ≠ p.nm := lk_none.1 hn q (by simp)
    have hr : lk r p.nm = none := lk_none.2 (fun x hx => lk_none.1 hn x (by simp [hx]))
    rw [insP]
    split
    · by_cases h : p.nm = m
      · rw [if_pos h, lk_cons_eq h]
      · rw [if_neg h, lk_cons_ne h]
    · by_cases hm : q.nm = m
      · rw [lk_cons_eq hm, if_neg (fun e => hq (hm.trans e.symm)), lk_cons_eq hm]
      · rw [lk_cons_ne hm, lk_ins p m r hr, lk_cons_ne hm]
theorem up_ins (p : Pl) : ∀ {ts : List Pl}, Up ts → lk ts p.nm = none → Up (insP p ts)
  | [], _, _ => by simp [insP]
  | q :: r, hu, hn => by
    have hq : q.nm ≠ p.nm := lk_none.1 hn q (by simp)
    have hr : lk r p.nm = none := lk_none.2 (fun x hx => lk_none.1 hn x (by simp [hx]))
    obtain ⟨a1, b1⟩ := List.pairwise_cons.1 hu
    rw [insP]
    split
    · rename_i h
      refine List.pairwise_cons.2 ⟨fun x hx => ?_, hu⟩
      rcases List.mem_cons.1 hx with rfl | hx
      · exact h
      · exact lt_trans' h (a1 x hx)
    · rename_i h
      refine List.pairwise_cons.2 ⟨fun x hx => ?_, up_ins p b1 hr⟩
      rcases (insP_mem p x r).1 hx with rfl | hx
      · refine lt_total (by simpa using h) ?_
        cases he : (x.nm.toList == q.nm.toList) with
        | false => rfl
        | true => exact absurd (bytes_eq he).symm hq
      · exact a1 x hx
theorem ins_add {ts : List Pl} (h : Up ts) (p : Pl) : insAll (ts ++ [p]) = insP p ts := by
  rw [insAll_snoc, insAll, ins_all ts [] (by simpa using h)]
  rfl
end Df
end Go.Proofs.YtohbonfngeblkaaGreat
namespace Go.Proofs.YtohbonfngeblkaaGreat
open Go.RowKit
namespace Df
open Co Lw
def stepT (t : Int × List Pl) (s : Stp) : Int × List Pl :=
  if s.kind = 3 ∨ s.kind = 7 then (s.n, t.2)
  else if s.kind = 2 then (t.1, dropT s.name t.2)
  else if s.kind = 4 then (t.1, insP ⟨s.name, 0, 0, 0⟩ t.2)
  else if s.kind = 5 then (t.1, updT s.name (fun p => ⟨p.nm, p.sz, p.wt, s.n⟩) t.2)
  else if s.kind = 6 then (t.1, updT s.name (fun p => ⟨p.nm, p.sz, s.n, p.fr⟩) t.2)
  else (t.1, updT s.name (fun p => ⟨p.nm, s.n, p.wt, p.fr⟩) t.2)
def goodS (t : Int × List Pl) (s : Stp) : Prop :=
  (s.kind = 3 ∧ s.name = ⟨#[]⟩ ∧ s.n < t.1) ∨ (s.kind = 7 ∧ s.name = ⟨#[]⟩ ∧ t.1 < s.n) ∨
  (s.kind = 4 ∧ s.n = 0 ∧ lk t.2 s.name = none ∧ GoodT (t.2 ++ [⟨s.name, 0, 0, 0⟩]) ∧ 1 ≤ t.1 ∧ t.1 ≤ 99) ∨
  (s.kind = 2 ∧ s.n = 0 ∧ ∃ p, lk t.2 s.name = some p) ∨
  (∃ p, lk t.2 s.name = some p ∧ ((s.kind = 1 ∧ s.n < p.sz) ∨ (s.kind = 5 ∧ s.n ≠ p.fr) ∨ (s.kind = 6 ∧ s.n ≠ p.wt) ∨ (s.kind = 8 ∧ p.sz < s.n)))
def RunOk : (Int × List Pl) → List Stp → Prop
  | _, [] => True
  | t, s :: r => Up t.2 ∧ t.2.length ≤ 6 ∧ goodS t s ∧ RunOk (stepT t s) r
theorem RunOk.append : ∀ {l1 l2 : List Stp} {t : Int × List Pl}, RunOk t l1 → RunOk (l1.foldl stepT t) l2 → RunOk t (l1 ++ l2)
  | [], _, _, _, h => h
  | _ :: _, _, _, h1, h2 => ⟨h1.1, h1.2.1, h1.2.2.1, RunOk.append h1.2.2.2 h2⟩
theorem RunOk.at : ∀ {l : List Stp} {t : Int × List Pl} {i : Nat} {s : Stp}, RunOk t l → l[i]? = some s → Up ((l.take i).foldl stepT t).2 ∧ ((l.take i).foldl stepT t).2.length ≤ 6 ∧ goodS ((l.take i).foldl stepT t) s
  | [], _, i, _, _, h => by simp at h
  | s0 :: r, t, 0, s, h, hs => by
    obtain rfl : s0 = s := by simpa using hs
    exact ⟨h.1, h.2.1, h.2.2.1⟩
  | s0 :: r, t, i + 1, s, h, hs => by
    have := RunOk.at h.2.2.2 (i := i) (s := s) (by simpa using hs)
    simpa using this
theorem run_names (pre post : ByteArray → Option Pl) (b : Int)
    (H0 : ∀ ts, Up ts → (∀ m, lk ts m = pre m ∨ lk ts m = post m) → ts.length ≤ 6) :
    ∀ (steps : List Stp), steps.Pairwise (fun x y => x.name ≠ y.name) →
    (∀ s ∈ steps, ∀ ts, Up ts → (∀ m, lk ts m = pre m ∨ lk ts m = post m) → lk ts s.name = pre s.name → goodS (b, ts) s ∧ Up (stepT (b, ts) s).2 ∧ (stepT (b, ts) s).1 = b ∧ ∀ m, lk (stepT (b, ts) s).2 m = if s.name = m then post m else lk ts m) →
    ∀ ts, Up ts → (∀ s ∈ steps, lk ts s.name = pre s.name) → (∀ m, lk ts m = pre m ∨ lk ts m = post m) → (∀ m, (∀ s ∈ steps, s.name ≠ m) → lk ts m = post m) →
    RunOk (b, ts) steps ∧ Up (steps.foldl stepT (b, ts)).2 ∧ (steps.foldl stepT (b, ts)).1 = b ∧ ∀ m, lk (steps.foldl stepT (b, ts)).2 m = post m
  | [], _, _, ts, hu, _, _, h3 => ⟨trivial, hu, rfl, fun m => h3 m (by simp)⟩
  | s :: r, hd, H1, ts, hu, h1, h2, h3 => by
    obtain ⟨d1, d2⟩ := List.pairwise_cons.1 hd
    obtain ⟨g, u, hb, e⟩ := H1 s (by simp) ts hu h2 (h1 s (by simp))
    obtain ⟨ts', hts⟩ : ∃ ts', stepT (b, ts) s = (b, ts') := ⟨(stepT (b, ts) s).2, Prod.ext hb rfl⟩
    rw [hts] at u e
    have ih := run_names pre post b H0 r d2 (fun s' hs' => H1 s' (by simp [hs'])) ts' u
      (fun s' hs' => by rw [e, if_neg (d1 s' hs')]; exact h1 s' (by simp [hs']))
      (fun m => by
        rw [e]
        split
        · exact .inr rfl
        · exact h2 m)
      (fun m hm => by
        rw [e]
        split
        · rfl
        · rename_i hne
          exact h3 m (fun s' hs' => by
            rcases List.mem_cons.1 hs' with rfl | hs'
            · exact hne
            · exact hm s' hs'))
    refine ⟨⟨hu, H0 ts hu h2, g, ?_⟩, ?_⟩
    · rw [hts]; exact ih.1
    · rw [List.foldl_cons, hts]; exact ih.2
def s2 (A B : Option Pl) : Option Pl := match A, B with
  | some p, some q => some (if q.sz < p.sz then ⟨p.nm, q.sz, p.wt, p.fr⟩ else p)
  | A, _ => A
def s3 (A B : Option Pl) : Option Pl := match B with
  | none => none
  | some _ => s2 A B
def s5 (A B : Option Pl) : Option Pl := match A, B with
  | none, some q => some ⟨q.nm, 0, 0, 0⟩
  | A, B => s3 A B
def s6 (A B : Option Pl) : Option Pl := match B with
  | none => none
  | some q => (s5 A B).map (fun p => ⟨p.nm, p.sz, p.wt, q.fr⟩)
def s7 (A B : Option Pl) : Option Pl := match B with
  | none => none
  | some q => (s6 A B).map (fun p => ⟨p.nm, p.sz, q.wt, p.fr⟩)
theorem s9_some {A : Option Pl} {q : Pl} (hA : ∀ p, A = some p → p.nm = q.nm) : (s7 A (some q)).map (fun p => (⟨p.nm, q.sz, p.wt, p.fr⟩ : Pl)) = some q := by
  cases A with
  | none => simp [s7, s6, s5]
  | some p =>
    have := hA p rfl
    obtain ⟨qn, _, _, _⟩ := q
    simp only at this
    simp only [s7, s6, s5, s3, s2]
    split <;> simp [this]
theorem inP_none {ps : List Pl} {nm : ByteArray} (h : lk ps nm = none) : inP ps nm = ⟨nm, 0, 0, 0⟩ := by
  have h' : ps.find? (isNameP nm) = none := h
  rw [inP, h']
theorem inP_some {ps : List Pl} {nm : ByteArray} {p : Pl} (h : lk ps nm = some p) : inP ps nm = p := by
  have h' : ps.find? (isNameP nm) = some p := h
  rw [inP, h']
theorem hasP_lk {qs : List Pl} {p : Pl} : hasP qs p = true ↔ lk qs p.nm ≠ none := by
  unfold hasP
  rw [Ne, lk_none, List.any_eq_true]
  constructor
  · rintro ⟨x, hx, he⟩ h
    exact h x hx (isN_eq.1 he)
  · intro h
    refine Classical.byContradiction fun hn => h (fun x hx e => hn ⟨x, hx, isN_eq.2 e⟩)
theorem names_map {f : Pl → Stp} (hf : ∀ p, (f p).name = p.nm) (c : Pl → Bool) {l : List Pl} (h : Up l) : ((l.filter c).map f).Pairwise (fun x y => x.name ≠ y.name) := by
  rw [List.pairwise_map]
  refine List.Pairwise.imp ?_ (List.Pairwise.filter _ h)
  intro a b hab
  rw [hf, hf]
  exact lt_ne hab
theorem len_ps {ba : Int} {ps : List Pl} (ha : Okt ba ps) {ts : List Pl} (hu : Up ts) (h : ∀ m x, lk ts m = some x → lk ps m ≠ none) : ts.length ≤ 6 := by
  refine Nat.le_trans (up_len hu ha.up (fun x hx => ?_)) ha.len
  have := h x.nm x (lk_of_mem hu hx)
  cases hp : lk ps x.nm with
  | none => exact absurd hp this
  | some p => exact ⟨p, lk_mem hp, lk_nm hp⟩
theorem len_qs {bb : Int} {qs : List Pl} (hb : Okt bb qs) {ts : List Pl} (hu : Up ts) (h : ∀ m x, lk ts m = some x → lk qs m ≠ none) : ts.length ≤ qs.length := by
  refine up_len hu hb.up (fun x hx => ?_)
  have := h x.nm x (lk_of_mem hu hx)
  cases hp : lk qs x.nm with
  | none => exact absurd hp this
  | some p => exact ⟨p, lk_mem hp, lk_nm hp⟩
theorem run1 {ba bb : Int} {ps qs : List Pl} (ha : Okt ba ps) (hb : Okt bb qs) (b : Int) : RunOk (b, ps) (chgL 1 ps qs) ∧ Up ((chgL 1 ps qs).foldl stepT (b, ps)).2 ∧ ((chgL 1 ps qs).foldl stepT (b, ps)).1 = b ∧ ∀ m, lk ((chgL 1 ps qs).foldl stepT (b, ps)).2 m = s2 (lk ps m) (lk qs m) := by
  have key : ∀ q ∈ qs, chgP 1 ps q = true → ∃ p, lk ps q.nm = some p ∧ q.sz < p.sz := by
    intro q hq hc
    have hc' : q.sz < (inP ps q.nm).sz := by simpa [chgP, leadsB, numP] using hc
    cases hp : lk ps q.nm with
    | none =>
      rw [inP_none hp] at hc'
      have := (hb.ok q hq).s0
      simp only at hc'
      omega
    | some p => rw [inP_some hp] at hc'; exact ⟨p, rfl, hc'⟩
  refine run_names (lk ps) (fun m => s2 (lk ps m) (lk qs m)) b ?_ (chgL 1 ps qs) (names_map (fun _ => rfl) _ hb.up) ?_ ps ha.up (fun _ _ => rfl) (fun _ => .inl rfl) ?_
  · intro ts hu h
    refine len_ps ha hu (fun m x hx hn => ?_)
    rcases h m with h | h
    · rw [hx, hn] at h; simp at h
    · rw [hx, hn] at h; simp [s2] at h
  · intro s hs ts hu _ hl
    obtain ⟨q, hq, rfl⟩ := List.mem_map.1 hs
    obtain ⟨hq, hc⟩ := List.mem_filter.1 hq
    obtain ⟨p, hp, hlt⟩ := key q hq hc
    have hqq := lk_of_mem hb.up hq
    have hl' : lk ts q.nm = lk ps q.nm := hl
    have hN : numP 1 q = q.sz := by simp [numP]
    have hst : stepT (b, ts) (stepP 1 q.nm (numP 1 q)) = (b, updT q.nm (fun p => ⟨p.nm, q.sz, p.wt, p.fr⟩) ts) := by rw [hN]; simp [stepT, stepP]
    rw [hst]
    refine ⟨.inr (.inr (.inr (.inr ⟨p, by show lk ts q.nm = some p; rw [hl', hp], .inl ⟨rfl, by show numP 1 q < p.sz; rw [hN]; exact hlt⟩⟩))), up_upd (f := fun p => ⟨p.nm, q.sz, p.wt, p.fr⟩) (fun _ => rfl) _ hu, rfl, fun m => ?_⟩
    show lk (updT q.nm _ ts) m = if q.nm = m then _ else _
    rw [lk_upd (f := fun p => ⟨p.nm, q.sz, p.wt, p.fr⟩) (fun _ => rfl)]
    by_cases hm : q.nm = m
    · subst hm
      rw [if_pos rfl, if_pos rfl, hl', hp, hqq]
      simp [s2, hlt]
    · rw [if_neg hm, if_neg hm]
  · intro m hm
    cases hp : lk ps m with
    | none => simp [s2]
    | some p =>
      cases hq : lk qs m with
      | none => simp [s2]
      | some q =>
        have hqn := lk_nm hq
        have : ¬ q.sz < p.sz := by
          intro hlt
          refine hm (stepP 1 q.nm (numP 1 q)) (List.mem_map.2 ⟨q, List.mem_filter.2 ⟨lk_mem hq, ?_⟩, rfl⟩) hqn
          have hp' : lk ps q.nm = some p := by rw [hqn]; exact hp
          simp [chgP, leadsB, numP, inP_some hp', hlt]
        simp [s2, this]
theorem run2 {ba : Int} {ps qs : List Pl} (ha : Okt ba ps) (b : Int) (ts0 : List Pl) (hu0 : Up ts0) (h0 : ∀ m, lk ts0 m = s2 (lk ps m) (lk qs m)) : RunOk (b, ts0) (missL 2 ps qs) ∧ Up ((missL 2 ps qs).foldl stepT (b, ts0)).2 ∧ ((missL 2 ps qs).foldl stepT (b, ts0)).1 = b ∧ ∀ m, lk ((missL 2 ps qs).foldl stepT (b, ts0)).2 m = s3 (lk ps m) (lk qs m) := by
  refine run_names (fun m => s2 (lk ps m) (lk qs m)) (fun m => s3 (lk ps m) (lk qs m)) b ?_ (missL 2 ps qs) (names_map (fun _ => rfl) _ ha.up) ?_ ts0 hu0 (fun s _ => h0 _) (fun m => .inl (h0 m)) ?_
  · intro ts hu h
    refine len_ps ha hu (fun m x hx hn => ?_)
    rcases h m with h | h
    · rw [hx, hn] at h; simp [s2] at h
    · rw [hx, hn] at h; cases hq : lk qs m <;> simp [s3, s2, hq] at h
  · intro s hs ts hu _ hl
    obtain ⟨p, hp, rfl⟩ := List.mem_map.1 hs
    obtain ⟨hp, hc⟩ := List.mem_filter.1 hp
    have hpp := lk_of_mem ha.up hp
    have hqn : lk qs p.nm = none := by
      refine Classical.byContradiction fun hn => ?_
      rw [hasP_lk.2 hn] at hc
      simp at hc
    have hl' : lk ts p.nm = some p := by
      have : lk ts p.nm = s2 (lk ps p.nm) (lk qs p.nm) := hl
      rw [this, hpp, hqn]; rfl
    have hst : stepT (b, ts) (stepP 2 p.nm 0) = (b, dropT p.nm ts) := by simp [stepT, stepP]
    rw [hst]
    refine ⟨.inr (.inr (.inr (.inl ⟨rfl, rfl, p, hl'⟩))), up_drop _ hu, rfl, fun m => ?_⟩
    show lk (dropT p.nm ts) m = if p.nm = m then _ else _
    rw [lk_drop]
    by_cases hm : p.nm = m
    · subst hm
      rw [if_pos rfl, if_pos rfl, hqn]; rfl
    · rw [if_neg hm, if_neg hm]
  · intro m hm
    rw [h0]
    cases hq : lk qs m with
    | some q => rfl
    | none =>
      cases hp : lk ps m with
      | none => rfl
      | some p =>
        have hpn := lk_nm hp
        exfalso
        refine hm (stepP 2 p.nm 0) (List.mem_map.2 ⟨p, List.mem_filter.2 ⟨lk_mem hp, ?_⟩, rfl⟩) hpn
        cases h : hasP qs p with
        | false => rfl
        | true => exact absurd (by rw [hpn]; exact hq) (hasP_lk.1 h)
theorem okp_s5 {ba bb : Int} {ps qs : List Pl} (ha : Okt ba ps) (hb : Okt bb qs) {m : ByteArray} {x : Pl} (h : s3 (lk ps m) (lk qs m) = some x ∨ s5 (lk ps m) (lk qs m) = some x) : Okp x ∧ lk qs m ≠ none := by
  cases hq : lk qs m with
  | none =>
    rw [hq] at h
    cases hp : lk ps m <;> simp [s5, s3, hp] at h
  | some q =>
    refine ⟨?_, by simp⟩
    have oq := hb.ok q (lk_mem hq)
    rw [hq] at h
    cases hp : lk ps m with
    | none =>
      rw [hp] at h
      rcases h with h | h
      · simp [s3, s2] at h
      · simp [s5] at h; subst h; exact ⟨oq.nm, by simp, by simp, by simp, by simp, by simp, by simp⟩
    | some p =>
      have op := ha.ok p (lk_mem hp)
      rw [hp] at h
      have h' : (if q.sz < p.sz then (⟨p.nm, q.sz, p.wt, p.fr⟩ : Pl) else p) = x := by
        rcases h with h | h
        · simpa [s3, s2] using h
        · simpa [s5, s3, s2] using h
      rw [← h']
      split
      · exact ⟨op.nm, oq.s0, oq.s1, op.w0, op.w1, op.f0, op.f1⟩
      · exact op
theorem run4 {ba bb : Int} {ps qs : List Pl} (ha : Okt ba ps) (hb : Okt bb qs) (b : Int) (hb1 : 1 ≤ b) (hb2 : b ≤ 99) (ts0 : List Pl) (hu0 : Up ts0) (h0 : ∀ m, lk ts0 m = s3 (lk ps m) (lk qs m)) : RunOk (b, ts0) (missL 4 qs ps) ∧ Up ((missL 4 qs ps).foldl stepT (b, ts0)).2 ∧ ((missL 4 qs ps).foldl stepT (b, ts0)).1 = b ∧ ∀ m, lk ((missL 4 qs ps).foldl stepT (b, ts0)).2 m = s5 (lk ps m) (lk qs m) := by
  have hin : ∀ ts, (∀ m, lk ts m = s3 (lk ps m) (lk qs m) ∨ lk ts m = s5 (lk ps m) (lk qs m)) → ∀ m x, lk ts m = some x → Okp x ∧ lk qs m ≠ none := by
    intro ts h m x hx
    refine okp_s5 ha hb ?_
    rcases h m with h | h
    · exact .inl (h.symm.trans hx)
    · exact .inr (h.symm.trans hx)
  refine run_names (fun m => s3 (lk ps m) (lk qs m)) (fun m => s5 (lk ps m) (lk qs m)) b ?_ (missL 4 qs ps) (names_map (fun _ => rfl) _ hb.up) ?_ ts0 hu0 (fun s _ => h0 _) (fun m => .inl (h0 m)) ?_
  · intro ts hu h
    exact Nat.le_trans (len_qs hb hu (fun m x hx => (hin ts h m x hx).2)) hb.len
  · intro s hs ts hu h hl
    obtain ⟨q, hq, rfl⟩ := List.mem_map.1 hs
    obtain ⟨hq, hc⟩ := List.mem_filter.1 hq
    have hqq := lk_of_mem hb.up hq
    have hpn : lk ps q.nm = none := by
      refine Classical.byContradiction fun hn => ?_
      rw [hasP_lk.2 hn] at hc
      simp at hc
    have hl' : lk ts q.nm = none := by
      have : lk ts q.nm = s3 (lk ps q.nm) (lk qs q.nm) := hl
      rw [this, hqq, hpn]; rfl
    have hst : stepT (b, ts) (stepP 4 q.nm 0) = (b, insP ⟨q.nm, 0, 0, 0⟩ ts) := by simp [stepT, stepP]
    have hlk : ∀ m, lk (insP ⟨q.nm, 0, 0, 0⟩ ts) m = if q.nm = m then some ⟨q.nm, 0, 0, 0⟩ else lk ts m := fun m => lk_ins ⟨q.nm, 0, 0, 0⟩ m ts hl'
    have hui : Up (insP ⟨q.nm, 0, 0, 0⟩ ts) := up_ins ⟨q.nm, 0, 0, 0⟩ hu hl'
    have oq := hb.ok q hq
    rw [hst]
    refine ⟨.inr (.inr (.inl ⟨rfl, rfl, hl', ⟨?_, ?_, ?_⟩, hb1, hb2⟩)), hui, rfl, fun m => ?_⟩
    · intro x hx
      rcases List.mem_append.1 hx with hx | hx
      · exact (hin ts h x.nm x (lk_of_mem hu hx)).1
      · simp at hx; subst hx; exact ⟨oq.nm, by simp, by simp, by simp, by simp, by simp, by simp⟩
    · rw [List.pairwise_append]
      refine ⟨List.Pairwise.imp (fun h => lt_ne h) hu, by simp, fun x hx y hy => ?_⟩
      simp at hy; subst hy
      exact lk_none.1 hl' x hx
    · have h1 := len_qs hb hui (fun m x hx => by
        rw [hlk] at hx
        by_cases hm : q.nm = m
        · rw [← hm, hqq]; simp
        · rw [if_neg hm] at hx; exact (hin ts h m x hx).2)
      rw [insP_len] at h1
      have := hb.len
      simp only [List.length_append, List.length_cons, List.length_nil]
      omega
    · show lk (insP ⟨q.nm, 0, 0, 0⟩ ts) m = if q.nm = m then _ else _
      rw [hlk]
      by_cases hm : q.nm = m
      · subst hm
        rw [if_pos rfl, if_pos rfl, hqq, hpn]; rfl
      · rw [if_neg hm, if_neg hm]
  · intro m hm
    rw [h0]
    cases hq : lk qs m with
    | none => cases hp : lk ps m <;> rfl
    | some q =>
      cases hp : lk ps m with
      | some p => rfl
      | none =>
        have hqn := lk_nm hq
        exfalso
        refine hm (stepP 4 q.nm 0) (List.mem_map.2 ⟨q, List.mem_filter.2 ⟨lk_mem hq, ?_⟩, rfl⟩) hqn
        cases h : hasP ps q with
        | false => rfl
        | true => exact absurd (by rw [hqn]; exact hp) (hasP_lk.1 h)
end Df
end Go.Proofs.YtohbonfngeblkaaGreat
