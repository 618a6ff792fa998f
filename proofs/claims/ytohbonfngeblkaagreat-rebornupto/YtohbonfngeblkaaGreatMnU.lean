import Derived.Test.YtohbonfngeblkaaGreatMnT
namespace Go.Proofs.YtohbonfngeblkaaGreat
open Go.RowKit
namespace Co
abbrev tl (s : ByteArray) : List UInt8 := s.data.toList
theorem tl_toList (s : ByteArray) : s.toList = tl s := ByteArray.toList_eq s
def splL (c : UInt8) : List UInt8 → List UInt8 → List (List UInt8)
  | cur, [] => [cur]
  | cur, x :: r => if x = c then cur :: splL c [] r else splL c (cur ++ [x]) r
theorem tl_ext (s : ByteArray) (a b : Nat) : tl (s.extract a b) = ((tl s).drop a).take (b - a) := by
  simp [tl, ByteArray.data_extract, Array.toList_extract, List.extract]
theorem tl_len (s : ByteArray) : (tl s).length = s.size := by rw [Array.length_toList]; rfl
theorem ext_snoc (l : List UInt8) (a i : Nat) (x : UInt8) (h : a ≤ i) (hx : l[i]? = some x) : (l.drop a).take (i + 1 - a) = (l.drop a).take (i - a) ++ [x] := by
  obtain ⟨hi, e⟩ := List.getElem?_eq_some_iff.1 hx
  rw [show i + 1 - a = (i - a) + 1 by omega, List.take_succ_eq_append_getElem (by simp; omega)]
  congr 2
  rw [List.getElem_drop, ← e]
  congr 1
  omega
theorem pieces_step (s : ByteArray) (c : UInt8) (i : Nat) (h : i < s.size) :
    ((spl s c.toNat i).1.map tl) ++ splL c (tl (s.extract (spl s c.toNat i).2 i)) ((tl s).drop i) =
    ((spl s c.toNat (i + 1)).1.map tl) ++ splL c (tl (s.extract (spl s c.toNat (i + 1)).2 (i + 1))) ((tl s).drop (i + 1)) := by
  have hl : i < (tl s).length := by rw [tl_len]; exact h
  have hx : (tl s)[i]? = some s[i] := by rw [List.getElem?_eq_getElem hl]; rfl
  have hd : (tl s).drop i = s[i] :: (tl s).drop (i + 1) := by
    rw [List.drop_eq_getElem_cons hl]; rfl
  rw [hd]
  by_cases hc : s[i].toNat = c.toNat
  · have hc' : s[i] = c := UInt8.toNat_inj.1 hc
    rw [spl_hit s c.toNat i h hc, splL, if_pos hc', tl_ext s (i + 1)]
    simp
  · have hc' : ¬ s[i] = c := fun e => hc (by rw [e])
    rw [spl_miss s c.toNat i h hc, splL, if_neg hc', tl_ext, tl_ext, ext_snoc _ _ i _ (spl_le s c.toNat i).1 hx]
theorem pieces_inv (s : ByteArray) (c : UInt8) : ∀ k i, i + k = s.size → 
    ((spl s c.toNat i).1.map tl) ++ splL c (tl (s.extract (spl s c.toNat i).2 i)) ((tl s).drop i) = (pieces s c.toNat).map tl
  | 0, i, h => by
    have e : i = s.size := by omega
    subst e
    rw [List.drop_of_length_le (by rw [tl_len]; exact Nat.le_refl _), splL, pieces, List.map_append]
    rfl
  | k + 1, i, h => by
    rw [pieces_step s c i (by omega)]
    exact pieces_inv s c k (i + 1) (by omega)
theorem pieces_list (s : ByteArray) (c : UInt8) : (pieces s c.toNat).map tl = splL c [] (tl s) := by
  rw [← pieces_inv s c s.size 0 (by omega), tl_ext]
  simp [spl]
theorem splL_cons (c : UInt8) (r : List UInt8) : ∀ (f cur : List UInt8), c ∉ f → splL c cur (f ++ c :: r) = (cur ++ f) :: splL c [] r
  | [], cur, _ => by simp [splL]
  | x :: f, cur, h => by
    have h1 : ¬ x = c := fun e => h (by simp [e])
    have h2 : c ∉ f := fun e => h (by simp [e])
    rw [List.cons_append, splL, if_neg h1, splL_cons c r f _ h2]
    simp
theorem splL_end (c : UInt8) : ∀ (f cur : List UInt8), c ∉ f → splL c cur f = [cur ++ f]
  | [], cur, _ => by simp [splL]
  | x :: f, cur, h => by
    have h1 : ¬ x = c := fun e => h (by simp [e])
    have h2 : c ∉ f := fun e => h (by simp [e])
    rw [splL, if_neg h1, splL_end c f _ h2]
    simp
def fldL (l : List UInt8) : List (List UInt8) := (splL 32 [] l).filter fun p => !p.isEmpty
theorem flds_list (s : ByteArray) : (flds s).map tl = fldL (tl s) := by
  unfold flds fldL
  rw [← pieces_list s 32, List.filter_map]
  congr 1
  apply List.filter_congr
  intro p _
  simp [notE, tl_toList]
def Gd (f : List UInt8) : Prop := f ≠ [] ∧ ∀ x ∈ f, x ≠ 32 ∧ x ≠ 10
theorem fldL_nil : fldL [] = [] := by simp [fldL, splL]
theorem fldL_blank (r : List UInt8) : fldL (32 :: r) = fldL r := by simp [fldL, splL]
theorem fldL_one {f : List UInt8} (h : Gd f) : fldL f = [f] := by
  have h2 : (32 : UInt8) ∉ f := fun e => (h.2 _ e).1 rfl
  have h1 := h.1
  simp [fldL, splL_end _ _ _ h2, h1]
theorem fldL_cons {f : List UInt8} (h : Gd f) (r : List UInt8) : fldL (f ++ 32 :: r) = f :: fldL r := by
  have h2 : (32 : UInt8) ∉ f := fun e => (h.2 _ e).1 rfl
  have h1 := h.1
  unfold fldL
  rw [splL_cons _ _ _ _ h2]
  simp [h1]
structure Sty where
  b0 : Bool
  b1 : Bool
  b2 : Bool
  b3 : Bool
  b4 : Bool
  b5 : Bool
  b6 : Bool
  b7 : Bool
  b8 : Bool
  b9 : Bool
def sepL (st : Sty) : List UInt8 := if st.b1 = true then [32, 32] else [32]
def joinL (st : Sty) : List (List UInt8) → List UInt8
  | [] => []
  | f :: r => sepL st ++ f ++ joinL st r
def joinF (st : Sty) : List (List UInt8) → List UInt8
  | [] => []
  | f :: r => f ++ joinL st r
theorem joinL_snoc (st : Sty) (f : List UInt8) : ∀ l, joinL st (l ++ [f]) = joinL st l ++ sepL st ++ f
  | [] => by simp [joinL]
  | g :: l => by simp [joinL, joinL_snoc st f l]
theorem joinF_snoc (st : Sty) (f : List UInt8) (l : List (List UInt8)) (h : l ≠ []) : joinF st (l ++ [f]) = joinF st l ++ sepL st ++ f := by
  cases l with
  | nil => exact absurd rfl h
  | cons g l => simp [joinF, joinL_snoc st f l]
def padL (st : Sty) : List UInt8 := if st.b0 = true then [32, 32] else []
def endL (st : Sty) : List UInt8 := if st.b2 = true then [32] else []
def bodyL (st : Sty) (fs : List (List UInt8)) : List UInt8 := padL st ++ joinF st fs ++ endL st
def moreL (st : Sty) : List UInt8 := if st.b3 = true then [32, 10] else []
def lineL (st : Sty) (fs : List (List UInt8)) : List UInt8 := bodyL st fs ++ 10 :: moreL st
theorem fld_joinL (st : Sty) : ∀ (fs : List (List UInt8)), (∀ f ∈ fs, Gd f) → fldL (joinL st fs ++ endL st) = fs ∧ (joinL st fs ++ endL st = [] ∨ ∃ r, joinL st fs ++ endL st = 32 :: r)
  | [], _ => by
    unfold endL
    cases st.b2 <;> simp [joinL, fldL, splL]
  | f :: r, h => by
    obtain ⟨i1, i2⟩ := fld_joinL st r (fun g hg => h g (List.mem_cons_of_mem _ hg))
    have hf := h f List.mem_cons_self
    have key : fldL (f ++ (joinL st r ++ endL st)) = f :: r := by
      rcases i2 with e | ⟨q, e⟩
      · rw [e] at i1 ⊢
        rw [fldL_nil] at i1
        rw [List.append_nil, fldL_one hf, ← i1]
      · rw [e] at i1 ⊢
        rw [fldL_cons hf, ← fldL_blank, i1]
    constructor
    · rw [joinL, sepL]
      cases st.b1 <;> simp only [reduceIte, Bool.false_eq_true, List.cons_append, List.nil_append, List.append_assoc, fldL_blank] <;> exact key
    · right
      rw [joinL, sepL]
      cases st.b1 <;> simp
theorem fld_body (st : Sty) (fs : List (List UInt8)) (h : ∀ f ∈ fs, Gd f) : fldL (bodyL st fs) = fs := by
  have key : fldL (joinF st fs ++ endL st) = fs := by
    cases fs with
    | nil => unfold joinF endL; cases st.b2 <;> simp [fldL, splL]
    | cons f r =>
      obtain ⟨i1, i2⟩ := fld_joinL st r (fun g hg => h g (List.mem_cons_of_mem _ hg))
      have hf := h f List.mem_cons_self
      rw [joinF, List.append_assoc]
      rcases i2 with e | ⟨q, e⟩
      · rw [e] at i1 ⊢
        rw [fldL_nil] at i1
        rw [List.append_nil, fldL_one hf, ← i1]
      · rw [e] at i1 ⊢
        rw [fldL_cons hf, ← fldL_blank, i1]
  unfold bodyL padL
  cases st.b0 <;> simp only [reduceIte, Bool.false_eq_true, List.cons_append, List.nil_append, fldL_blank] <;> exact key
theorem joinL_nl (st : Sty) : ∀ (fs : List (List UInt8)), (∀ f ∈ fs, Gd f) → (10 : UInt8) ∉ joinL st fs
  | [], _ => by simp [joinL]
  | f :: r, h => by
    have h1 : (10 : UInt8) ∉ f := fun e => ((h f List.mem_cons_self).2 _ e).2 rfl
    have h2 := joinL_nl st r (fun g hg => h g (List.mem_cons_of_mem _ hg))
    rw [joinL, sepL]
    cases st.b1 <;> simp [h1, h2]
theorem body_nl (st : Sty) (fs : List (List UInt8)) (h : ∀ f ∈ fs, Gd f) : (10 : UInt8) ∉ bodyL st fs := by
  have hj : (10 : UInt8) ∉ joinF st fs := by
    cases fs with
    | nil => simp [joinF]
    | cons f r =>
      have h1 : (10 : UInt8) ∉ f := fun e => ((h f List.mem_cons_self).2 _ e).2 rfl
      have h2 := joinL_nl st r (fun g hg => h g (List.mem_cons_of_mem _ hg))
      simp [joinF, h1, h2]
  unfold bodyL padL endL
  cases st.b0 <;> cases st.b2 <;> simp [hj]
def blankL (st : Sty) : List (List UInt8) := if st.b3 = true then [[32]] else []
theorem spl_line (st : Sty) (fs : List (List UInt8)) (h : ∀ f ∈ fs, Gd f) (r : List UInt8) : splL 10 [] (lineL st fs ++ r) = bodyL st fs :: (blankL st ++ splL 10 [] r) := by
  unfold lineL
  rw [List.append_assoc, List.cons_append, splL_cons _ _ _ _ (body_nl st fs h)]
  unfold moreL blankL
  cases st.b3 <;> simp [splL]
end Co
end Go.Proofs.YtohbonfngeblkaaGreat
namespace Go.Proofs.YtohbonfngeblkaaGreat
open Go.RowKit
namespace Co
def dg : Nat → List UInt8
  | n => if h : 9 < n then dg (n / 10) ++ [UInt8.ofNat (48 + n % 10)] else [UInt8.ofNat (48 + n)]
  decreasing_by omega
theorem dg_big {n : Nat} (h : 9 < n) : dg n = dg (n / 10) ++ [UInt8.ofNat (48 + n % 10)] := by rw [dg, dif_pos h]
theorem dg_small {n : Nat} (h : ¬ 9 < n) : dg n = [UInt8.ofNat (48 + n)] := by rw [dg, dif_neg h]
theorem nat8 {k : Nat} (h : k ≤ 9) : (UInt8.ofNat (48 + k)).toNat = 48 + k := by
  simp [UInt8.toNat_ofNat']; omega
theorem numV_one {k : Nat} (h : k ≤ 9) : numV [UInt8.ofNat (48 + k)] = k := by
  simp only [numV, List.foldl_cons, List.foldl_nil, nat8 h]; omega
theorem dg_val : ∀ (n : Nat), numV (dg n) = n := by
  intro n
  induction n using Nat.strongRecOn with
  | ind n ih =>
    by_cases h : 9 < n
    · rw [dg_big h, numV_snoc, ih (n / 10) (by omega), nat8 (by omega)]; omega
    · rw [dg_small h, numV_one (by omega)]
theorem digs_one {k : Nat} (h : k ≤ 9) : digs [UInt8.ofNat (48 + k)] = true := by
  simp [digs, UInt8.le_iff_toNat_le]; omega
theorem dg_digs : ∀ (n : Nat), digs (dg n) = true := by
  intro n
  induction n using Nat.strongRecOn with
  | ind n ih =>
    by_cases h : 9 < n
    · have h1 := ih (n / 10) (by omega)
      have h2 := digs_one (k := n % 10) (by omega)
      rw [dg_big h]
      unfold digs at *
      rw [List.all_append, h1, h2]; rfl
    · rw [dg_small h]; exact digs_one (by omega)
theorem dg_len {n : Nat} (h : n ≤ 999) : 1 ≤ (dg n).length ∧ (dg n).length ≤ 3 := by
  by_cases h1 : 9 < n
  · rw [dg_big h1]
    by_cases h2 : 9 < n / 10
    · rw [dg_big h2, dg_small (n := n / 10 / 10) (by omega)]; simp
    · rw [dg_small h2]; simp
  · rw [dg_small h1]; simp
def wide (b : Bool) (l : List UInt8) : List UInt8 := if b = true then List.replicate (4 - l.length) 48 ++ l else l
def dgW (b : Bool) (n : Nat) : List UInt8 := wide b (dg n)
theorem numV_pad (l : List UInt8) : ∀ k, numV (List.replicate k 48 ++ l) = numV l
  | 0 => rfl
  | k + 1 => by
    have := numV_pad l k
    rw [List.replicate_succ, List.cons_append]
    unfold numV at *
    rw [List.foldl_cons]
    exact this
theorem digs_pad (l : List UInt8) (h : digs l = true) (k : Nat) : digs (List.replicate k 48 ++ l) = true := by
  unfold digs at *
  rw [List.all_append, h]
  simp
theorem dgW_num {b : Bool} {n : Nat} (h : n ≤ 999) : numF ⟨(dgW b n).toArray⟩ = some n ∧ 1 ≤ (dgW b n).length ∧ (dgW b n).length ≤ 4 ∧ digs (dgW b n) = true := by
  obtain ⟨l1, l2⟩ := dg_len h
  have hd := dg_digs n
  have hv := dg_val n
  have key : 1 ≤ (dgW b n).length ∧ (dgW b n).length ≤ 4 ∧ digs (dgW b n) = true ∧ numV (dgW b n) = n := by
    unfold dgW wide
    cases b
    · simp [hd, hv]; omega
    · simp only [reduceIte]
      refine ⟨?_, ?_, digs_pad _ hd _, by rw [numV_pad, hv]⟩
      · simp; omega
      · simp; omega
  refine ⟨?_, key.1, key.2.1, key.2.2.1⟩
  have e : (⟨(dgW b n).toArray⟩ : ByteArray).size = (dgW b n).length := by simp [ByteArray.size]
  unfold numF isNum
  rw [e]
  simp [key.1, key.2.1, key.2.2.1, key.2.2.2]
theorem gd_digs {l : List UInt8} (h1 : 1 ≤ l.length) (hd : digs l = true) : Gd l := by
  refine ⟨fun e => by rw [e] at h1; simp at h1, fun x hx => ?_⟩
  unfold digs at hd
  have := List.all_eq_true.1 hd x hx
  simp only [Bool.and_eq_true, decide_eq_true_eq, UInt8.le_iff_toNat_le] at this
  constructor
  · rintro rfl; exact absurd this.1 (by decide)
  · rintro rfl; exact absurd this.1 (by decide)
theorem gd_name {s : ByteArray} (h : isNm s = true) : Gd (tl s) := by
  unfold isNm lets at h
  simp only [Bool.and_eq_true, decide_eq_true_eq] at h
  refine ⟨fun e => ?_, fun x hx => ?_⟩
  · have := tl_len s
    rw [e] at this
    simp at this
    omega
  · have := List.all_eq_true.1 h.2 x hx
    simp only [Bool.and_eq_true, decide_eq_true_eq, UInt8.le_iff_toNat_le] at this
    constructor
    · rintro rfl; exact absurd this.1 (by decide)
    · rintro rfl; exact absurd this.1 (by decide)
abbrev wBudget : List UInt8 := [98, 117, 100, 103, 101, 116]
abbrev wBase : List UInt8 := [98, 97, 115, 101]
abbrev wPool : List UInt8 := [112, 111, 111, 108]
abbrev wFrom : List UInt8 := [102, 114, 111, 109]
abbrev wSize : List UInt8 := [115, 105, 122, 101]
abbrev wWait : List UInt8 := [119, 97, 105, 116]
abbrev wFar : List UInt8 := [102, 97, 114]
structure Okp (p : Pl) : Prop where
  nm : isNm p.nm = true
  s0 : 0 ≤ p.sz
  s1 : p.sz ≤ 20
  w0 : 0 ≤ p.wt
  w1 : p.wt ≤ 20
  f0 : 0 ≤ p.fr
  f1 : p.fr ≤ 999
abbrev mk (l : List UInt8) : ByteArray := ⟨l.toArray⟩
theorem mk_tl (s : ByteArray) : mk (tl s) = s := by cases s; simp
theorem tl_mk (l : List UInt8) : tl (mk l) = l := by simp
theorem mkL (l : List UInt8) : (mk l).toList = l := by rw [tl_toList, tl_mk]
def fltD (st : Sty) (n : Int) : List UInt8 := dgW st.b4 n.toNat
def frB (st : Sty) (last : ByteArray) (p : Pl) : Bool := st.b6 && !(tl p.nm == tl last)
def fsBud (st : Sty) (b : Int) : List (List UInt8) := [wBudget, fltD st b]
def fsPool (st : Sty) (p : Pl) : List (List UInt8) :=
  if st.b7 = true then [wPool, tl p.nm, wFar, fltD st p.fr, wSize, fltD st p.sz, wWait, fltD st p.wt]
  else [wPool, tl p.nm, wSize, fltD st p.sz, wWait, fltD st p.wt, wFar, fltD st p.fr]
def fsBase (st : Sty) (last : ByteArray) (p : Pl) : List (List UInt8) :=
  if frB st last p = true then [wBase, tl p.nm, wFrom, tl last, wFar, [51], wSize, fltD st p.sz]
  else [wBase, tl p.nm, wSize, fltD st p.sz]
def fsFrom (st : Sty) (p : Pl) : List (List UInt8) := [wPool, tl p.nm, wFrom, tl p.nm, wWait, fltD st p.wt, wFar, fltD st p.fr]
def lnBud (b : Int) : Ln := ⟨1, ⟨#[]⟩, ⟨#[]⟩, [(3, b.toNat)], 0⟩
def lnPool (st : Sty) (p : Pl) : Ln := ⟨3, p.nm, ⟨#[]⟩, if st.b7 = true then [(2, p.fr.toNat), (0, p.sz.toNat), (1, p.wt.toNat)] else [(0, p.sz.toNat), (1, p.wt.toNat), (2, p.fr.toNat)], 0⟩
def lnBase (st : Sty) (last : ByteArray) (p : Pl) : Ln := ⟨2, p.nm, if frB st last p = true then last else ⟨#[]⟩, if frB st last p = true then [(2, 3), (0, p.sz.toNat)] else [(0, p.sz.toNat)], 0⟩
def lnFrom (p : Pl) : Ln := ⟨3, p.nm, p.nm, [(1, p.wt.toNat), (2, p.fr.toNat)], 0⟩
theorem kf0 : keyF (mk wSize) = some 0 := by simp [keyF, kwL]
theorem kf1 : keyF (mk wWait) = some 1 := by simp [keyF, kwL]
theorem kf2 : keyF (mk wFar) = some 2 := by simp [keyF, kwL]
theorem nfD (st : Sty) {n : Int} (h : n ≤ 999) : numF (mk (fltD st n)) = some n.toNat := (dgW_num (by omega)).1
theorem gdD (st : Sty) {n : Int} (h : n ≤ 999) : Gd (fltD st n) := gd_digs (dgW_num (b := st.b4) (n := n.toNat) (by omega)).2.1 (dgW_num (by omega)).2.2.2
theorem lenD (st : Sty) {n : Int} (h : n ≤ 999) : (fltD st n).length ≤ 4 := (dgW_num (b := st.b4) (n := n.toNat) (by omega)).2.2.1
theorem prs_bud (st : Sty) {b : Int} (h : b ≤ 99) : parseF ((fsBud st b).map mk) = some (lnBud b) := by
  have := nfD st (n := b) (by omega)
  simp [fsBud, parseF, budF, this, lnBud]
theorem prs_pool (st : Sty) {p : Pl} (h : Okp p) : parseF ((fsPool st p).map mk) = some (lnPool st p) := by
  have hs := nfD st (n := p.sz) (by have := h.s1; omega)
  have hw := nfD st (n := p.wt) (by have := h.w1; omega)
  have hf := nfD st (n := p.fr) h.f1
  unfold fsPool lnPool
  cases st.b7 <;> simp [parseF, namedF, mk_tl, h.nm, setsF, kf0, kf1, kf2, hs, hw, hf]
theorem prs_from (st : Sty) {p : Pl} (h : Okp p) : parseF ((fsFrom st p).map mk) = some (lnFrom p) := by
  have hw := nfD st (n := p.wt) (by have := h.w1; omega)
  have hf := nfD st (n := p.fr) h.f1
  simp [fsFrom, lnFrom, parseF, namedF, mk_tl, h.nm, setsF, kf1, kf2, hw, hf]
theorem num3 : numF (mk [51]) = some 3 := by simp [numF, isNum, digs, numV, ByteArray.size]
theorem prs_base (st : Sty) {last : ByteArray} (hl : isNm last = true) {p : Pl} (h : Okp p) : parseF ((fsBase st last p).map mk) = some (lnBase st last p) := by
  have hs := nfD st (n := p.sz) (by have := h.s1; omega)
  unfold fsBase lnBase
  cases frB st last p <;> simp [parseF, namedF, mk_tl, h.nm, hl, setsF, kf0, kf2, hs, num3]
theorem gdw : Gd wBudget ∧ Gd wBase ∧ Gd wPool ∧ Gd wFrom ∧ Gd wSize ∧ Gd wWait ∧ Gd wFar ∧ Gd [51] := by
  unfold Gd
  decide
theorem gd_bud (st : Sty) {b : Int} (h : b ≤ 99) : ∀ f ∈ fsBud st b, Gd f := by
  have := gdD st (n := b) (by omega)
  simp [fsBud, this, gdw]
theorem gd_pool (st : Sty) {p : Pl} (h : Okp p) : ∀ f ∈ fsPool st p, Gd f := by
  have hs := gdD st (n := p.sz) (by have := h.s1; omega)
  have hw := gdD st (n := p.wt) (by have := h.w1; omega)
  have hf := gdD st (n := p.fr) h.f1
  have hn := gd_name h.nm
  unfold fsPool
  cases st.b7 <;> simp [gdw, hs, hw, hf, hn]
theorem gd_from (st : Sty) {p : Pl} (h : Okp p) : ∀ f ∈ fsFrom st p, Gd f := by
  have hw := gdD st (n := p.wt) (by have := h.w1; omega)
  have hf := gdD st (n := p.fr) h.f1
  have hn := gd_name h.nm
  simp [fsFrom, gdw, hw, hf, hn]
theorem gd_base (st : Sty) {last : ByteArray} (hl : isNm last = true) {p : Pl} (h : Okp p) : ∀ f ∈ fsBase st last p, Gd f := by
  have hs := gdD st (n := p.sz) (by have := h.s1; omega)
  have hn := gd_name h.nm
  have hn2 := gd_name hl
  unfold fsBase
  cases frB st last p <;> simp [gdw, hs, hn, hn2]
end Co
end Go.Proofs.YtohbonfngeblkaaGreat
namespace Go.Proofs.YtohbonfngeblkaaGreat
open Go.RowKit
namespace Co
abbrev np (l : Ln) : Ln := { l with place := 0 }
theorem find_np : ∀ (ls : List Ln) (k : Nat) (nm : ByteArray), (findC ls k nm).map np = findC (ls.map np) k nm
  | [], _, _ => rfl
  | p :: r, k, nm => by
    have ih := find_np r k nm
    simp only [findC, List.map_cons, List.find?_cons] at ih ⊢
    cases (p.kind == k && p.name.toList == nm.toList) with
    | true => rfl
    | false => exact ih
theorem cnt_np (ls : List Ln) (k : Nat) : cntC (ls.map np) k = cntC ls k := by
  simp only [cntC, List.filter_map, List.length_map]
  rfl
theorem fault_np (ls : List Ln) (l : Ln) : faultC (ls.map np) l = faultC ls l := by
  unfold faultC manyC
  rw [cnt_np, ← find_np, Option.isSome_map, List.length_map]
theorem ch_np (ls : List Ln) : ∀ (f : Nat) (nm : ByteArray), (chC ls f nm).map np = chC (ls.map np) f nm
  | 0, _ => rfl
  | f + 1, nm => by
    rw [chC, chC, ← find_np]
    cases findC ls 2 nm with
    | none => rfl
    | some p => simp only [Option.map_some, List.map_cons]; rw [ch_np ls f]
theorem chv_np (key : Nat) (other : Int) : ∀ ls : List Ln, chvC key other (ls.map np) = chvC key other ls
  | [] => rfl
  | p :: r => by
    have ih := chv_np key other r
    simp only [List.map_cons, chvC] at ih ⊢
    rw [ih]
theorem val_np (key : Nat) (other : Int) (ss : List (Nat × Nat)) (ch : List Ln) : valC key other ss (ch.map np) = valC key other ss ch := by
  unfold valC
  rw [chv_np]
theorem pl_np (ls : List Ln) (l : Ln) : plC (ls.map np) (np l) = plC ls l := by
  unfold plC
  simp only
  rw [← ch_np, val_np, val_np, val_np]
theorem st_np (ls : List Ln) (x : Int × List Pl) (l : Ln) : stC (ls.map np) x (np l) = stC ls x l := by
  unfold stC
  rw [pl_np]
theorem tab_np (ls : List Ln) : tabC (ls.map np) = tabC ls := by
  unfold tabC
  rw [List.foldl_map]
  congr 1
  funext x l
  exact st_np ls x l
theorem lon_zero (all : List Ln) (most : Nat) : ∀ ls : List Ln, (∀ l ∈ ls, (chC all 7 l.frm).length ≤ most) → lonC all most ls = 0
  | [], _ => rfl
  | p :: r, h => by
    rw [lonC, if_neg (by have := h p List.mem_cons_self; omega)]
    exact lon_zero all most r (fun l hl => h l (List.mem_cons_of_mem _ hl))
theorem no_none (all : List Ln) : ∀ ls : List Ln, (∀ l ∈ ls, baC all l.frm = true) → noC all ls = none
  | [], _ => rfl
  | p :: r, h => by
    rw [noC, if_pos (h p List.mem_cons_self)]
    exact no_none all r (fun l hl => h l (List.mem_cons_of_mem _ hl))
def okA : List Ln → List Ln → Prop
  | _, [] => True
  | acc, l :: r => faultC acc l = 0 ∧ okA (acc ++ [l]) r
theorem okA_append : ∀ (a acc b : List Ln), okA acc a → okA (acc ++ a) b → okA acc (a ++ b)
  | [], acc, b, _, h => by simpa using h
  | l :: a, acc, b, h, h2 => by
    refine ⟨h.1, okA_append a (acc ++ [l]) b h.2 (by simpa using h2)⟩
def LnOf (fs : List (List UInt8)) (l : Ln) : Prop := fs ≠ [] ∧ (∀ f ∈ fs, Gd f) ∧ parseF (fs.map mk) = some l ∧ l.place = 0
theorem flds_of {s : ByteArray} {fs : List (List UInt8)} (h : fldL (tl s) = fs) : flds s = fs.map mk := by
  rw [← h, ← flds_list, List.map_map]
  symm
  refine (List.map_congr_left (fun p _ => ?_)).trans (List.map_id _)
  exact mk_tl p
theorem rdC_blank {i : Nat} {acc : List Ln} {p : ByteArray} {r : List ByteArray} (h : fldL (tl p) = []) : rdC i acc (p :: r) = rdC (i + 1) acc r := by
  rw [rdC, if_pos (by rw [flds_of h]; rfl)]
theorem rdC_line {i : Nat} {acc : List Ln} {p : ByteArray} {r : List ByteArray} {fs : List (List UInt8)} {l : Ln} (hl : LnOf fs l) (h : fldL (tl p) = fs) (hf : faultC acc l = 0) :
    rdC i acc (p :: r) = rdC (i + 1) (acc ++ [{ l with place := i + 1 }]) r := by
  have e := flds_of h
  have h0 : ¬ (flds p).length = 0 := by
    rw [e, List.length_map]
    intro h1
    exact hl.1 (List.length_eq_zero_iff.1 h1)
  rw [rdC, if_neg h0, e, hl.2.2.1]
  simp only
  rw [if_pos hf]
def bodies (st : Sty) (ls : List (List (List UInt8))) : List (List UInt8) := ls.flatMap fun fs => bodyL st fs :: blankL st
theorem spl_text (st : Sty) : ∀ ls : List (List (List UInt8)), (∀ fs ∈ ls, ∀ f ∈ fs, Gd f) → splL 10 [] (ls.flatMap (lineL st)) = bodies st ls ++ [[]]
  | [], _ => by simp [bodies, splL]
  | fs :: r, h => by
    rw [List.flatMap_cons, spl_line st fs (h fs List.mem_cons_self), spl_text st r (fun g hg => h g (List.mem_cons_of_mem _ hg))]
    simp [bodies]
theorem rdC_text (st : Sty) : ∀ (ps : List (List (List UInt8) × Ln)) (i : Nat) (acc : List Ln), (∀ p ∈ ps, LnOf p.1 p.2) → okA (acc.map np) (ps.map Prod.snd) → (acc ≠ [] ∨ ps ≠ []) →
    ∃ ls, rdC i acc ((bodies st (ps.map Prod.fst) ++ [[]]).map mk) = ⟨ls, 0, 0⟩ ∧ ls.map np = acc.map np ++ ps.map Prod.snd
  | [], i, acc, _, _, hne => by
    have hne : acc ≠ [] := by simpa using hne
    refine ⟨acc, ?_, by simp⟩
    have e : rdC i acc ((bodies st (([] : List (List (List UInt8) × Ln)).map Prod.fst) ++ [[]]).map mk) = rdC (i + 1) acc [] := rdC_blank (p := mk []) (r := []) (by rw [tl_mk, fldL_nil])
    rw [e, rdC, if_neg (fun h => hne (List.length_eq_zero_iff.1 h))]
  | q :: r, i, acc, h, ho, _ => by
    obtain ⟨fs, l⟩ := q
    have hq := h (fs, l) List.mem_cons_self
    simp only at hq
    have hp0 := hq.2.2.2
    simp only [List.map_cons, okA] at ho
    have hf : faultC acc l = 0 := by rw [← fault_np]; exact ho.1
    have enp : ∀ k, np { l with place := k } = l := by
      intro k
      cases l
      simp only at hp0
      subst hp0
      rfl
    have ho2 : okA ((acc ++ [{ l with place := i + 1 }]).map np) (r.map Prod.snd) := by
      rw [List.map_append, List.map_cons, enp, List.map_nil]; exact ho.2
    have hr : ∀ p ∈ r, LnOf p.1 p.2 := fun p hp => h p (List.mem_cons_of_mem _ hp)
    have hb : fldL (tl (mk (bodyL st fs))) = fs := by rw [tl_mk]; exact fld_body st fs hq.2.1
    have e1 : rdC i acc ((bodies st (((fs, l) :: r).map Prod.fst) ++ [[]]).map mk) = rdC (i + 1) (acc ++ [{ l with place := i + 1 }]) ((blankL st ++ (bodies st (r.map Prod.fst) ++ [[]])).map mk) := by
      have e0 : (bodies st (((fs, l) :: r).map Prod.fst) ++ [[]]).map mk = mk (bodyL st fs) :: ((blankL st ++ (bodies st (r.map Prod.fst) ++ [[]])).map mk) := by
        simp [bodies]
      rw [e0, rdC_line hq hb hf]
    have e2 : ∃ j, rdC (i + 1) (acc ++ [{ l with place := i + 1 }]) ((blankL st ++ (bodies st (r.map Prod.fst) ++ [[]])).map mk) = rdC j (acc ++ [{ l with place := i + 1 }]) ((bodies st (r.map Prod.fst) ++ [[]]).map mk) := by
      unfold blankL
      cases st.b3
      · exact ⟨i + 1, by simp⟩
      · refine ⟨i + 2, ?_⟩
        have : ((if true = true then [[(32 : UInt8)]] else []) ++ (bodies st (r.map Prod.fst) ++ [[]])).map mk = mk [32] :: ((bodies st (r.map Prod.fst) ++ [[]]).map mk) := by simp
        rw [this]
        exact rdC_blank (by rw [tl_mk, fldL_blank, fldL_nil])
    obtain ⟨j, e2⟩ := e2
    obtain ⟨ls, h1, h2⟩ := rdC_text st r j (acc ++ [{ l with place := i + 1 }]) hr ho2 (.inl (by simp))
    refine ⟨ls, by rw [e1, e2, h1], ?_⟩
    rw [h2, List.map_append, List.map_cons, enp]
    simp
theorem rd_text (st : Sty) (s : ByteArray) (ps : List (List (List UInt8) × Ln)) (hs : tl s = (ps.map Prod.fst).flatMap (lineL st)) (h : ∀ p ∈ ps, LnOf p.1 p.2) (ho : okA [] (ps.map Prod.snd)) (hne : ps ≠ []) :
    ∃ ls, rd s = ⟨ls, 0, 0⟩ ∧ ls.map np = ps.map Prod.snd := by
  have hg : ∀ fs ∈ ps.map Prod.fst, ∀ f ∈ fs, Gd f := by
    intro fs hfs
    obtain ⟨p, hp, rfl⟩ := List.mem_map.1 hfs
    exact (h p hp).2.1
  have e : pieces s 10 = (bodies st (ps.map Prod.fst) ++ [[]]).map mk := by
    rw [← spl_text st _ hg, ← hs, ← pieces_list s 10, List.map_map]
    symm
    refine (List.map_congr_left (fun p _ => ?_)).trans (List.map_id _)
    exact mk_tl p
  obtain ⟨ls, h1, h2⟩ := rdC_text st ps 0 [] h ho (.inr hne)
  exact ⟨ls, by rw [rd, e, h1], by simpa using h2⟩
end Co
end Go.Proofs.YtohbonfngeblkaaGreat
