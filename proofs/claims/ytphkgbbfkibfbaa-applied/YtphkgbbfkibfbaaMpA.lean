
import Derived.Test.YtphkgbbfkibfbaaKpF
import Derived.Test.YtphkgbbfkibfbaaDfD
namespace Go.Proofs.Ytphkgbbfkibfbaa
open Go.RowKit
namespace Df
open Co Lw

abbrev Up (l : List Pl) : Prop := l.Pairwise (fun a b => lt a.nm b.nm = true)
/-- the pool of a name -/
def lk (l : List Pl) (nm : ByteArray) : Option Pl := l.find? (isNameP nm)
theorem isN_eq {nm : ByteArray} {p : Pl} : isNameP nm p = true ↔ p.nm = nm := by
  constructor
  · intro h; exact bytes_eq h
  · rintro rfl; simp [isNameP]
theorem isN_ne {nm : ByteArray} {p : Pl} (h : p.nm ≠ nm) : isNameP nm p = false := by
  cases h2 : isNameP nm p with
  | false => rfl
  | true => exact absurd (isN_eq.1 h2) h
theorem lk_nm {l : List Pl} {nm : ByteArray} {p : Pl} (h : lk l nm = some p) : p.nm = nm := isN_eq.1 (List.find?_some h)
theorem lk_mem {l : List Pl} {nm : ByteArray} {p : Pl} (h : lk l nm = some p) : p ∈ l := List.mem_of_find?_eq_some h
theorem lk_none {l : List Pl} {nm : ByteArray} : lk l nm = none ↔ ∀ p ∈ l, p.nm ≠ nm := by
  unfold lk
  rw [List.find?_eq_none]
  constructor
  · intro h p hp e; exact h p hp (isN_eq.2 e)
  · intro h p hp e; exact h p hp (isN_eq.1 e)
theorem lk_cons_eq {x : Pl} {l : List Pl} {nm : ByteArray} (h : x.nm = nm) : lk (x :: l) nm = some x := List.find?_cons_of_pos (isN_eq.2 h)
theorem lk_cons_ne {x : Pl} {l : List Pl} {nm : ByteArray} (h : x.nm ≠ nm) : lk (x :: l) nm = lk l nm := List.find?_cons_of_neg (by rw [isN_ne h]; simp)
theorem lk_of_mem : ∀ {l : List Pl}, Up l → ∀ {x : Pl}, x ∈ l → lk l x.nm = some x
  | [], _, x, hx => by simp at hx
  | y :: r, hu, x, hx => by
    rcases List.mem_cons.1 hx with rfl | hx
    · exact lk_cons_eq rfl
    · rw [lk_cons_ne (lt_ne ((List.pairwise_cons.1 hu).1 x hx)), lk_of_mem (List.pairwise_cons.1 hu).2 hx]
theorem up_ext : ∀ {l l' : List Pl}, Up l → Up l' → (∀ nm, lk l nm = lk l' nm) → l = l'
  | [], [], _, _, _ => rfl
  | [], y :: r, _, _, h => by
    have := h y.nm
    rw [lk_cons_eq rfl] at this
    simp [lk] at this
  | x :: r, [], _, _, h => by
    have := h x.nm
    rw [lk_cons_eq rfl] at this
    simp [lk] at this
  | x :: r, y :: r', h1, h2, h => by
    have hx : lk (y :: r') x.nm = some x := by rw [← h, lk_cons_eq rfl]
    have hy : lk (x :: r) y.nm = some y := by rw [h, lk_cons_eq rfl]
    obtain ⟨a1, b1⟩ := List.pairwise_cons.1 h1
    obtain ⟨a2, b2⟩ := List.pairwise_cons.1 h2
    have e : x = y := by
      rcases List.mem_cons.1 (lk_mem hx) with e | hm
      · exact e
      · rcases List.mem_cons.1 (lk_mem hy) with e | hm'
        · exact e.symm
        · have c1 := a2 x hm
          have c2 := a1 y hm'
          rw [lt_asym c1] at c2
          exact absurd c2 (by simp)
    subst e
    congr 1
    refine up_ext b1 b2 (fun nm => ?_)
    by_cases hn : x.nm = nm
    · rw [lk_none.2 (fun p hp e => lt_ne (a1 p hp) (hn.trans e.symm)), lk_none.2 (fun p hp e => lt_ne (a2 p hp) (hn.trans e.symm))]
    · have := h nm
      rwa [lk_cons_ne hn, lk_cons_ne hn] at this
theorem up_len : ∀ {l' l : List Pl}, Up l → Up l' → (∀ x ∈ l, ∃ y ∈ l', y.nm = x.nm) → l.length ≤ l'.length
  | [], l, _, _, h => by
    cases l with
    | nil => simp
    | cons x r => obtain ⟨y, hy, _⟩ := h x (by simp); simp at hy
  | y :: r', [], _, _, _ => by simp
  | y :: r', x :: r, h1, h2, h => by
    obtain ⟨a1, b1⟩ := List.pairwise_cons.1 h1
    obtain ⟨a2, b2⟩ := List.pairwise_cons.1 h2
    by_cases e : y.nm = x.nm
    · have := up_len (l' := r') (l := r) b1 b2 (fun z hz => by
        obtain ⟨u, hu, he⟩ := h z (by simp [hz])
        rcases List.mem_cons.1 hu with rfl | hu
        · exact absurd (e.symm.trans he) (lt_ne (a1 z hz))
        · exact ⟨u, hu, he⟩)
      simp; omega
    · have := up_len (l' := r') (l := x :: r) h1 b2 (fun z hz => by
        obtain ⟨u, hu, he⟩ := h z hz
        rcases List.mem_cons.1 hu with rfl | hu
        · exfalso
          obtain ⟨v, hv, hve⟩ := h x (by simp)
          rcases List.mem_cons.1 hv with rfl | hv
          · exact e hve
          · have c1 := a2 v hv
            rw [hve] at c1
            rcases List.mem_cons.1 hz with rfl | hz
            · exact e he
            · have c2 := a1 z hz
              rw [← he] at c2
              rw [lt_asym c1] at c2
              exact absurd c2 (by simp)
        · exact ⟨u, hu, he⟩)
      simp at this ⊢; omega

/-- what a step does to a list of pools -/
def updT (nm : ByteArray) (f : Pl → Pl) (ts : List Pl) : List Pl := ts.map (fun p => if isNameP nm p = true then f p else p)
def dropT (nm : ByteArray) (ts : List Pl) : List Pl := ts.filter (fun p => !isNameP nm p)
theorem lk_upd {f : Pl → Pl} (hf : ∀ p, (f p).nm = p.nm) (nm m : ByteArray) : ∀ (ts : List Pl), lk (updT nm f ts) m = if nm = m then (lk ts m).map f else lk ts m
  | [] => by simp [lk, updT]
  | x :: r => by
    have ih := lk_upd hf nm m r
    have e : updT nm f (x :: r) = (if isNameP nm x = true then f x else x) :: updT nm f r := rfl
    have hn : (if isNameP nm x = true then f x else x).nm = x.nm := by split <;> simp [hf]
    rw [e]
    by_cases hx : x.nm = m
    · rw [lk_cons_eq (hn.trans hx), lk_cons_eq hx]
      by_cases h : nm = m
      · rw [if_pos h, if_pos (isN_eq.2 (hx.trans h.symm))]; rfl
      · rw [if_neg h, if_neg (by rw [isN_eq]; exact fun e => h (e.symm.trans hx))]
    · rw [lk_cons_ne (by rw [hn]; exact hx), lk_cons_ne hx, ih]
theorem up_upd {f : Pl → Pl} (hf : ∀ p, (f p).nm = p.nm) (nm : ByteArray) {ts : List Pl} (h : Up ts) : Up (updT nm f ts) := by
  unfold Up updT
  rw [List.pairwise_map]
  refine List.Pairwise.imp ?_ h
  intro a b hab
  have ha : (if isNameP nm a = true then f a else a).nm = a.nm := by split <;> simp [hf]
  have hb : (if isNameP nm b = true then f b else b).nm = b.nm := by split <;> simp [hf]
  rw [ha, hb]; exact hab
theorem set_upd (nm : ByteArray) (f : Pl → Pl) : ∀ {ts : List Pl} {k : Nat} {x : Pl}, Up ts → ts[k]? = some x → x.nm = nm → ts.set k (f x) = updT nm f ts
  | [], k, x, _, h, _ => by simp at h
  | y :: r, 0, x, hu, h, hn => by
    obtain rfl : y = x := by simpa using h
    have e : updT nm f (y :: r) = (if isNameP nm y = true then f y else y) :: updT nm f r := rfl
    rw [e, if_pos (isN_eq.2 hn)]
    have e2 : updT nm f r = r := by
      unfold updT
      conv => rhs; rw [← List.map_id r]
      refine List.map_congr_left (fun p hp => ?_)
      rw [if_neg (by rw [isN_eq]; exact fun e => lt_ne ((List.pairwise_cons.1 hu).1 p hp) (hn.trans e.symm))]; rfl
    rw [e2]; rfl
  | y :: r, k + 1, x, hu, h, hn => by
    have hx : r[k]? = some x := by simpa using h
    have e : updT nm f (y :: r) = (if isNameP nm y = true then f y else y) :: updT nm f r := rfl
    rw [e, if_neg (by rw [isN_eq]; exact fun e => lt_ne ((List.pairwise_cons.1 hu).1 x (List.mem_of_getElem? hx)) (e.trans hn.symm)), List.set_cons_succ, set_upd nm f (List.pairwise_cons.1 hu).2 hx hn]
theorem lk_drop (nm m : ByteArray) : ∀ (ts : List Pl), lk (dropT nm ts) m = if nm = m then none else lk ts m
  | [] => by simp [lk, dropT]
  | x :: r => by
    have ih := lk_drop nm m r
    unfold dropT at ih ⊢
    by_cases hx : x.nm = nm
    · rw [List.filter_cons_of_neg (by rw [isN_eq.2 hx]; simp), ih]
      by_cases h : nm = m
      · rw [if_pos h, if_pos h]
      · rw [if_neg h, if_neg h, lk_cons_ne (fun e => h (hx.symm.trans e))]
    · rw [List.filter_cons_of_pos (by rw [isN_ne hx]; rfl)]
      by_cases hm : x.nm = m
      · rw [lk_cons_eq hm, lk_cons_eq hm, if_neg (fun e => hx (hm.trans e.symm))]
      · rw [lk_cons_ne hm, lk_cons_ne hm, ih]
theorem up_drop (nm : ByteArray) {ts : List Pl} (h : Up ts) : Up (dropT nm ts) := List.Pairwise.filter _ h
theorem erase_drop (nm : ByteArray) : ∀ {ts : List Pl} {k : Nat} {x : Pl}, Up ts → ts[k]? = some x → x.nm = nm → ts.take k ++ ts.drop (k + 1) = dropT nm ts
  | [], k, x, _, h, _ => by simp at h
  | y :: r, 0, x, hu, h, hn => by
    obtain rfl : y = x := by simpa using h
    unfold dropT
    rw [List.filter_cons_of_neg (by rw [isN_eq.2 hn]; simp)]
    have e2 : r.filter (fun p => !isNameP nm p) = r := by
      rw [List.filter_eq_self]
      intro p hp
      rw [isN_ne (fun e => lt_ne ((List.pairwise_cons.1 hu).1 p hp) (hn.trans e.symm))]; rfl
    rw [e2]; rfl
  | y :: r, k + 1, x, hu, h, hn => by
    have hx : r[k]? = some x := by simpa using h
    have ih := erase_drop nm (List.pairwise_cons.1 hu).2 hx hn
    unfold dropT at ih ⊢
    rw [List.filter_cons_of_pos (by rw [isN_ne (fun e => lt_ne ((List.pairwise_cons.1 hu).1 x (List.mem_of_getElem? hx)) (e.trans hn.symm))]; rfl), ← ih]
    rfl
theorem lk_ins (p : Pl) (m : ByteArray) : ∀ (ts : List Pl), lk ts p.nm = none → lk (insP p ts) m = if p.nm = m then some p else lk ts m
  | [], _ => by
    by_cases h : p.nm = m
    · rw [if_pos h]; exact lk_cons_eq h
    · rw [if_neg h]; exact lk_cons_ne h
  | q :: r, hn => by
    have hq : q.nm ≠ p.nm := lk_none.1 hn q (by simp)
    have hr : lk r p.nm = none := lk_none.2 (fun x hx => lk_none.1 hn x (by simp [hx]))
    rw [insP]
    split
    · by_cases h : p.nm = m
      · rw [if_pos h, lk_cons_eq h]
      · rw [if_neg h, lk_cons_ne h]
    · by_cases hm : q.nm = m
      · rw [lk_cons_eq hm, if_neg (fun e => hq (hm.trans e.symm)), lk_cons_eq hm]
      · rw [lk_cons_ne hm, lk_ins p m r hr, lk_cons_ne hm]
theorem up_ins (p : Pl) : ∀ {ts : List Pl}, Up ts → lk ts p.nm = none → Up (insP p ts)
  | [], _, _ => by simp [insP]
  | q :: r, hu, hn => by
    have hq : q.nm ≠ p.nm := lk_none.1 hn q (by simp)
    have hr : lk r p.nm = none := lk_none.2 (fun x hx => lk_none.1 hn x (by simp [hx]))
    obtain ⟨a1, b1⟩ := List.pairwise_cons.1 hu
    rw [insP]
    split
    · rename_i h
      refine List.pairwise_cons.2 ⟨fun x hx => ?_, hu⟩
      rcases List.mem_cons.1 hx with rfl | hx
      · exact h
      · exact lt_trans' h (a1 x hx)
    · rename_i h
      refine List.pairwise_cons.2 ⟨fun x hx => ?_, up_ins p b1 hr⟩
      rcases (insP_mem p x r).1 hx with rfl | hx
      · refine lt_total (by simpa using h) ?_
        cases he : (x.nm.toList == q.nm.toList) with
        | false => rfl
        | true => exact absurd (bytes_eq he).symm hq
      · exact a1 x hx
theorem ins_add {ts : List Pl} (h : Up ts) (p : Pl) : insAll (ts ++ [p]) = insP p ts := by
  rw [insAll_snoc, insAll, ins_all ts [] (by simpa using h)]
  rfl
end Df
end Go.Proofs.Ytphkgbbfkibfbaa
