
import Derived.Test.YtehehkahmpbjhaaDoorLoA
namespace Go.Proofs.YtehehkahmpbjhaaDoor
open Go.RowKit
namespace Co
/-- digits -/
def dg : Nat → List UInt8
  | n => if h : 9 < n then dg (n / 10) ++ [UInt8.ofNat (48 + n % 10)] else [UInt8.ofNat (48 + n)]
  decreasing_by omega
theorem dg_big {n : Nat} (h : 9 < n) : dg n = dg (n / 10) ++ [UInt8.ofNat (48 + n % 10)] := by rw [dg, dif_pos h]
theorem dg_small {n : Nat} (h : ¬ 9 < n) : dg n = [UInt8.ofNat (48 + n)] := by rw [dg, dif_neg h]
theorem nat8 {k : Nat} (h : k ≤ 9) : (UInt8.ofNat (48 + k)).toNat = 48 + k := by
  simp [UInt8.toNat_ofNat']; omega
theorem numV_one {k : Nat} (h : k ≤ 9) : numV [UInt8.ofNat (48 + k)] = k := by
  simp only [numV, List.foldl_cons, List.foldl_nil, nat8 h]; omega
theorem dg_val : ∀ (n : Nat), numV (dg n) = n := by
  intro n
  induction n using Nat.strongRecOn with
  | ind n ih =>
    by_cases h : 9 < n
    · rw [dg_big h, numV_snoc, ih (n / 10) (by omega), nat8 (by omega)]; omega
    · rw [dg_small h, numV_one (by omega)]
theorem digs_one {k : Nat} (h : k ≤ 9) : digs [UInt8.ofNat (48 + k)] = true := by
  simp [digs, UInt8.le_iff_toNat_le]; omega
theorem dg_digs : ∀ (n : Nat), digs (dg n) = true := by
  intro n
  induction n using Nat.strongRecOn with
  | ind n ih =>
    by_cases h : 9 < n
    · have h1 := ih (n / 10) (by omega)
      have h2 := digs_one (k := n % 10) (by omega)
      rw [dg_big h]
      unfold digs at *
      rw [List.all_append, h1, h2]; rfl
    · rw [dg_small h]; exact digs_one (by omega)
theorem dg_len {n : Nat} (h : n ≤ 999) : 1 ≤ (dg n).length ∧ (dg n).length ≤ 3 := by
  by_cases h1 : 9 < n
  · rw [dg_big h1]
    by_cases h2 : 9 < n / 10
    · rw [dg_big h2, dg_small (n := n / 10 / 10) (by omega)]; simp
    · rw [dg_small h2]; simp
  · rw [dg_small h1]; simp
def wide (b : Bool) (l : List UInt8) : List UInt8 := if b = true then List.replicate (4 - l.length) 48 ++ l else l
def dgW (b : Bool) (n : Nat) : List UInt8 := wide b (dg n)
theorem numV_pad (l : List UInt8) : ∀ k, numV (List.replicate k 48 ++ l) = numV l
  | 0 => rfl
  | k + 1 => by
    have := numV_pad l k
    rw [List.replicate_succ, List.cons_append]
    unfold numV at *
    rw [List.foldl_cons]
    exact this
theorem digs_pad (l : List UInt8) (h : digs l = true) (k : Nat) : digs (List.replicate k 48 ++ l) = true := by
  unfold digs at *
  rw [List.all_append, h]
  simp
theorem dgW_num {b : Bool} {n : Nat} (h : n ≤ 999) : numF ⟨(dgW b n).toArray⟩ = some n ∧ 1 ≤ (dgW b n).length ∧ (dgW b n).length ≤ 4 ∧ digs (dgW b n) = true := by
  obtain ⟨l1, l2⟩ := dg_len h
  have hd := dg_digs n
  have hv := dg_val n
  have key : 1 ≤ (dgW b n).length ∧ (dgW b n).length ≤ 4 ∧ digs (dgW b n) = true ∧ numV (dgW b n) = n := by
    unfold dgW wide
    cases b
    · simp [hd, hv]; omega
    · simp only [reduceIte]
      refine ⟨?_, ?_, digs_pad _ hd _, by rw [numV_pad, hv]⟩
      · simp; omega
      · simp; omega
  refine ⟨?_, key.1, key.2.1, key.2.2.1⟩
  have e : (⟨(dgW b n).toArray⟩ : ByteArray).size = (dgW b n).length := by simp [ByteArray.size]
  unfold numF isNum
  rw [e]
  simp [key.1, key.2.1, key.2.2.1, key.2.2.2]
theorem gd_digs {l : List UInt8} (h1 : 1 ≤ l.length) (hd : digs l = true) : Gd l := by
  refine ⟨fun e => by rw [e] at h1; simp at h1, fun x hx => ?_⟩
  unfold digs at hd
  have := List.all_eq_true.1 hd x hx
  simp only [Bool.and_eq_true, decide_eq_true_eq, UInt8.le_iff_toNat_le] at this
  constructor
  · rintro rfl; exact absurd this.1 (by decide)
  · rintro rfl; exact absurd this.1 (by decide)
theorem gd_name {s : ByteArray} (h : isNm s = true) : Gd (tl s) := by
  unfold isNm lets at h
  simp only [Bool.and_eq_true, decide_eq_true_eq] at h
  refine ⟨fun e => ?_, fun x hx => ?_⟩
  · have := tl_len s
    rw [e] at this
    simp at this
    omega
  · have := List.all_eq_true.1 h.2 x hx
    simp only [Bool.and_eq_true, decide_eq_true_eq, UInt8.le_iff_toNat_le] at this
    constructor
    · rintro rfl; exact absurd this.1 (by decide)
    · rintro rfl; exact absurd this.1 (by decide)
/-- a text's words -/
abbrev wBudget : List UInt8 := [98, 117, 100, 103, 101, 116]
abbrev wBase : List UInt8 := [98, 97, 115, 101]
abbrev wPool : List UInt8 := [112, 111, 111, 108]
abbrev wFrom : List UInt8 := [102, 114, 111, 109]
abbrev wSize : List UInt8 := [115, 105, 122, 101]
abbrev wWait : List UInt8 := [119, 97, 105, 116]
abbrev wFar : List UInt8 := [102, 97, 114]
/-- a pool that may be -/
structure Okp (p : Pl) : Prop where
  nm : isNm p.nm = true
  s0 : 0 ≤ p.sz
  s1 : p.sz ≤ 20
  w0 : 0 ≤ p.wt
  w1 : p.wt ≤ 20
  f0 : 0 ≤ p.fr
  f1 : p.fr ≤ 999
abbrev mk (l : List UInt8) : ByteArray := ⟨l.toArray⟩
theorem mk_tl (s : ByteArray) : mk (tl s) = s := by cases s; simp
theorem tl_mk (l : List UInt8) : tl (mk l) = l := by simp
theorem mkL (l : List UInt8) : (mk l).toList = l := by rw [tl_toList, tl_mk]
def fltD (st : Sty) (n : Int) : List UInt8 := dgW st.b4 n.toNat
/-- is a base from the last one? -/
def frB (st : Sty) (last : ByteArray) (p : Pl) : Bool := st.b6 && !(tl p.nm == tl last)
def fsBud (st : Sty) (b : Int) : List (List UInt8) := [wBudget, fltD st b]
def fsPool (st : Sty) (p : Pl) : List (List UInt8) :=
  if st.b7 = true then [wPool, tl p.nm, wFar, fltD st p.fr, wSize, fltD st p.sz, wWait, fltD st p.wt]
  else [wPool, tl p.nm, wSize, fltD st p.sz, wWait, fltD st p.wt, wFar, fltD st p.fr]
def fsBase (st : Sty) (last : ByteArray) (p : Pl) : List (List UInt8) :=
  if frB st last p = true then [wBase, tl p.nm, wFrom, tl last, wFar, [51], wSize, fltD st p.sz]
  else [wBase, tl p.nm, wSize, fltD st p.sz]
def fsFrom (st : Sty) (p : Pl) : List (List UInt8) := [wPool, tl p.nm, wFrom, tl p.nm, wWait, fltD st p.wt, wFar, fltD st p.fr]
def lnBud (b : Int) : Ln := ⟨1, ⟨#[]⟩, ⟨#[]⟩, [(3, b.toNat)], 0⟩
def lnPool (st : Sty) (p : Pl) : Ln := ⟨3, p.nm, ⟨#[]⟩, if st.b7 = true then [(2, p.fr.toNat), (0, p.sz.toNat), (1, p.wt.toNat)] else [(0, p.sz.toNat), (1, p.wt.toNat), (2, p.fr.toNat)], 0⟩
def lnBase (st : Sty) (last : ByteArray) (p : Pl) : Ln := ⟨2, p.nm, if frB st last p = true then last else ⟨#[]⟩, if frB st last p = true then [(2, 3), (0, p.sz.toNat)] else [(0, p.sz.toNat)], 0⟩
def lnFrom (p : Pl) : Ln := ⟨3, p.nm, p.nm, [(1, p.wt.toNat), (2, p.fr.toNat)], 0⟩
theorem kf0 : keyF (mk wSize) = some 0 := by simp [keyF, kwL]
theorem kf1 : keyF (mk wWait) = some 1 := by simp [keyF, kwL]
theorem kf2 : keyF (mk wFar) = some 2 := by simp [keyF, kwL]
theorem nfD (st : Sty) {n : Int} (h : n ≤ 999) : numF (mk (fltD st n)) = some n.toNat := (dgW_num (by omega)).1
theorem gdD (st : Sty) {n : Int} (h : n ≤ 999) : Gd (fltD st n) := gd_digs (dgW_num (b := st.b4) (n := n.toNat) (by omega)).2.1 (dgW_num (by omega)).2.2.2
theorem lenD (st : Sty) {n : Int} (h : n ≤ 999) : (fltD st n).length ≤ 4 := (dgW_num (b := st.b4) (n := n.toNat) (by omega)).2.2.1
theorem prs_bud (st : Sty) {b : Int} (h : b ≤ 99) : parseF ((fsBud st b).map mk) = some (lnBud b) := by
  have := nfD st (n := b) (by omega)
  simp [fsBud, parseF, budF, this, lnBud]
theorem prs_pool (st : Sty) {p : Pl} (h : Okp p) : parseF ((fsPool st p).map mk) = some (lnPool st p) := by
  have hs := nfD st (n := p.sz) (by have := h.s1; omega)
  have hw := nfD st (n := p.wt) (by have := h.w1; omega)
  have hf := nfD st (n := p.fr) h.f1
  unfold fsPool lnPool
  cases st.b7 <;> simp [parseF, namedF, mk_tl, h.nm, setsF, kf0, kf1, kf2, hs, hw, hf]
theorem prs_from (st : Sty) {p : Pl} (h : Okp p) : parseF ((fsFrom st p).map mk) = some (lnFrom p) := by
  have hw := nfD st (n := p.wt) (by have := h.w1; omega)
  have hf := nfD st (n := p.fr) h.f1
  simp [fsFrom, lnFrom, parseF, namedF, mk_tl, h.nm, setsF, kf1, kf2, hw, hf]
theorem num3 : numF (mk [51]) = some 3 := by simp [numF, isNum, digs, numV, ByteArray.size]
theorem prs_base (st : Sty) {last : ByteArray} (hl : isNm last = true) {p : Pl} (h : Okp p) : parseF ((fsBase st last p).map mk) = some (lnBase st last p) := by
  have hs := nfD st (n := p.sz) (by have := h.s1; omega)
  unfold fsBase lnBase
  cases frB st last p <;> simp [parseF, namedF, mk_tl, h.nm, hl, setsF, kf0, kf2, hs, num3]
theorem gdw : Gd wBudget ∧ Gd wBase ∧ Gd wPool ∧ Gd wFrom ∧ Gd wSize ∧ Gd wWait ∧ Gd wFar ∧ Gd [51] := by
  unfold Gd
  decide
theorem gd_bud (st : Sty) {b : Int} (h : b ≤ 99) : ∀ f ∈ fsBud st b, Gd f := by
  have := gdD st (n := b) (by omega)
  simp [fsBud, this, gdw]
theorem gd_pool (st : Sty) {p : Pl} (h : Okp p) : ∀ f ∈ fsPool st p, Gd f := by
  have hs := gdD st (n := p.sz) (by have := h.s1; omega)
  have hw := gdD st (n := p.wt) (by have := h.w1; omega)
  have hf := gdD st (n := p.fr) h.f1
  have hn := gd_name h.nm
  unfold fsPool
  cases st.b7 <;> simp [gdw, hs, hw, hf, hn]
theorem gd_from (st : Sty) {p : Pl} (h : Okp p) : ∀ f ∈ fsFrom st p, Gd f := by
  have hw := gdD st (n := p.wt) (by have := h.w1; omega)
  have hf := gdD st (n := p.fr) h.f1
  have hn := gd_name h.nm
  simp [fsFrom, gdw, hw, hf, hn]
theorem gd_base (st : Sty) {last : ByteArray} (hl : isNm last = true) {p : Pl} (h : Okp p) : ∀ f ∈ fsBase st last p, Gd f := by
  have hs := gdD st (n := p.sz) (by have := h.s1; omega)
  have hn := gd_name h.nm
  have hn2 := gd_name hl
  unfold fsBase
  cases frB st last p <;> simp [gdw, hs, hn, hn2]
end Co
end Go.Proofs.YtehehkahmpbjhaaDoor
