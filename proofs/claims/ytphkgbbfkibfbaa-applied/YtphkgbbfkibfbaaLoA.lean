
import Derived.Test.YtphkgbbfkibfbaaCoR
namespace Go.Proofs.Ytphkgbbfkibfbaa
open Go.RowKit
namespace Co
/-- bytes as a list -/
abbrev tl (s : ByteArray) : List UInt8 := s.data.toList
theorem tl_toList (s : ByteArray) : s.toList = tl s := ByteArray.toList_eq s
def splL (c : UInt8) : List UInt8 → List UInt8 → List (List UInt8)
  | cur, [] => [cur]
  | cur, x :: r => if x = c then cur :: splL c [] r else splL c (cur ++ [x]) r
theorem tl_ext (s : ByteArray) (a b : Nat) : tl (s.extract a b) = ((tl s).drop a).take (b - a) := by
  simp [tl, ByteArray.data_extract, Array.toList_extract, List.extract]
theorem tl_len (s : ByteArray) : (tl s).length = s.size := by rw [Array.length_toList]; rfl
theorem ext_snoc (l : List UInt8) (a i : Nat) (x : UInt8) (h : a ≤ i) (hx : l[i]? = some x) : (l.drop a).take (i + 1 - a) = (l.drop a).take (i - a) ++ [x] := by
  obtain ⟨hi, e⟩ := List.getElem?_eq_some_iff.1 hx
  rw [show i + 1 - a = (i - a) + 1 by omega, List.take_succ_eq_append_getElem (by simp; omega)]
  congr 2
  rw [List.getElem_drop, ← e]
  congr 1
  omega
theorem pieces_step (s : ByteArray) (c : UInt8) (i : Nat) (h : i < s.size) :
    ((spl s c.toNat i).1.map tl) ++ splL c (tl (s.extract (spl s c.toNat i).2 i)) ((tl s).drop i) =
    ((spl s c.toNat (i + 1)).1.map tl) ++ splL c (tl (s.extract (spl s c.toNat (i + 1)).2 (i + 1))) ((tl s).drop (i + 1)) := by
  have hl : i < (tl s).length := by rw [tl_len]; exact h
  have hx : (tl s)[i]? = some s[i] := by rw [List.getElem?_eq_getElem hl]; rfl
  have hd : (tl s).drop i = s[i] :: (tl s).drop (i + 1) := by
    rw [List.drop_eq_getElem_cons hl]; rfl
  rw [hd]
  by_cases hc : s[i].toNat = c.toNat
  · have hc' : s[i] = c := UInt8.toNat_inj.1 hc
    rw [spl_hit s c.toNat i h hc, splL, if_pos hc', tl_ext s (i + 1)]
    simp
  · have hc' : ¬ s[i] = c := fun e => hc (by rw [e])
    rw [spl_miss s c.toNat i h hc, splL, if_neg hc', tl_ext, tl_ext, ext_snoc _ _ i _ (spl_le s c.toNat i).1 hx]
theorem pieces_inv (s : ByteArray) (c : UInt8) : ∀ k i, i + k = s.size → 
    ((spl s c.toNat i).1.map tl) ++ splL c (tl (s.extract (spl s c.toNat i).2 i)) ((tl s).drop i) = (pieces s c.toNat).map tl
  | 0, i, h => by
    have e : i = s.size := by omega
    subst e
    rw [List.drop_of_length_le (by rw [tl_len]; exact Nat.le_refl _), splL, pieces, List.map_append]
    rfl
  | k + 1, i, h => by
    rw [pieces_step s c i (by omega)]
    exact pieces_inv s c k (i + 1) (by omega)
theorem pieces_list (s : ByteArray) (c : UInt8) : (pieces s c.toNat).map tl = splL c [] (tl s) := by
  rw [← pieces_inv s c s.size 0 (by omega), tl_ext]
  simp [spl]
theorem splL_cons (c : UInt8) (r : List UInt8) : ∀ (f cur : List UInt8), c ∉ f → splL c cur (f ++ c :: r) = (cur ++ f) :: splL c [] r
  | [], cur, _ => by simp [splL]
  | x :: f, cur, h => by
    have h1 : ¬ x = c := fun e => h (by simp [e])
    have h2 : c ∉ f := fun e => h (by simp [e])
    rw [List.cons_append, splL, if_neg h1, splL_cons c r f _ h2]
    simp
theorem splL_end (c : UInt8) : ∀ (f cur : List UInt8), c ∉ f → splL c cur f = [cur ++ f]
  | [], cur, _ => by simp [splL]
  | x :: f, cur, h => by
    have h1 : ¬ x = c := fun e => h (by simp [e])
    have h2 : c ∉ f := fun e => h (by simp [e])
    rw [splL, if_neg h1, splL_end c f _ h2]
    simp
def fldL (l : List UInt8) : List (List UInt8) := (splL 32 [] l).filter fun p => !p.isEmpty
theorem flds_list (s : ByteArray) : (flds s).map tl = fldL (tl s) := by
  unfold flds fldL
  rw [← pieces_list s 32, List.filter_map]
  congr 1
  apply List.filter_congr
  intro p _
  simp [notE, tl_toList]
/-- a field of a line -/
def Gd (f : List UInt8) : Prop := f ≠ [] ∧ ∀ x ∈ f, x ≠ 32 ∧ x ≠ 10
theorem fldL_nil : fldL [] = [] := by simp [fldL, splL]
theorem fldL_blank (r : List UInt8) : fldL (32 :: r) = fldL r := by simp [fldL, splL]
theorem fldL_one {f : List UInt8} (h : Gd f) : fldL f = [f] := by
  have h2 : (32 : UInt8) ∉ f := fun e => (h.2 _ e).1 rfl
  have h1 := h.1
  simp [fldL, splL_end _ _ _ h2, h1]
theorem fldL_cons {f : List UInt8} (h : Gd f) (r : List UInt8) : fldL (f ++ 32 :: r) = f :: fldL r := by
  have h2 : (32 : UInt8) ∉ f := fun e => (h.2 _ e).1 rfl
  have h1 := h.1
  unfold fldL
  rw [splL_cons _ _ _ _ h2]
  simp [h1]
/-- the bits of a style -/
structure Sty where
  b0 : Bool
  b1 : Bool
  b2 : Bool
  b3 : Bool
  b4 : Bool
  b5 : Bool
  b6 : Bool
  b7 : Bool
  b8 : Bool
  b9 : Bool
def sepL (st : Sty) : List UInt8 := if st.b1 = true then [32, 32] else [32]
def joinL (st : Sty) : List (List UInt8) → List UInt8
  | [] => []
  | f :: r => sepL st ++ f ++ joinL st r
def joinF (st : Sty) : List (List UInt8) → List UInt8
  | [] => []
  | f :: r => f ++ joinL st r
theorem joinL_snoc (st : Sty) (f : List UInt8) : ∀ l, joinL st (l ++ [f]) = joinL st l ++ sepL st ++ f
  | [] => by simp [joinL]
  | g :: l => by simp [joinL, joinL_snoc st f l]
theorem joinF_snoc (st : Sty) (f : List UInt8) (l : List (List UInt8)) (h : l ≠ []) : joinF st (l ++ [f]) = joinF st l ++ sepL st ++ f := by
  cases l with
  | nil => exact absurd rfl h
  | cons g l => simp [joinF, joinL_snoc st f l]
def padL (st : Sty) : List UInt8 := if st.b0 = true then [32, 32] else []
def endL (st : Sty) : List UInt8 := if st.b2 = true then [32] else []
def bodyL (st : Sty) (fs : List (List UInt8)) : List UInt8 := padL st ++ joinF st fs ++ endL st
def moreL (st : Sty) : List UInt8 := if st.b3 = true then [32, 10] else []
def lineL (st : Sty) (fs : List (List UInt8)) : List UInt8 := bodyL st fs ++ 10 :: moreL st
theorem fld_joinL (st : Sty) : ∀ (fs : List (List UInt8)), (∀ f ∈ fs, Gd f) → fldL (joinL st fs ++ endL st) = fs ∧ (joinL st fs ++ endL st = [] ∨ ∃ r, joinL st fs ++ endL st = 32 :: r)
  | [], _ => by
    unfold endL
    cases st.b2 <;> simp [joinL, fldL, splL]
  | f :: r, h => by
    obtain ⟨i1, i2⟩ := fld_joinL st r (fun g hg => h g (List.mem_cons_of_mem _ hg))
    have hf := h f List.mem_cons_self
    have key : fldL (f ++ (joinL st r ++ endL st)) = f :: r := by
      rcases i2 with e | ⟨q, e⟩
      · rw [e] at i1 ⊢
        rw [fldL_nil] at i1
        rw [List.append_nil, fldL_one hf, ← i1]
      · rw [e] at i1 ⊢
        rw [fldL_cons hf, ← fldL_blank, i1]
    constructor
    · rw [joinL, sepL]
      cases st.b1 <;> simp only [reduceIte, Bool.false_eq_true, List.cons_append, List.nil_append, List.append_assoc, fldL_blank] <;> exact key
    · right
      rw [joinL, sepL]
      cases st.b1 <;> simp
theorem fld_body (st : Sty) (fs : List (List UInt8)) (h : ∀ f ∈ fs, Gd f) : fldL (bodyL st fs) = fs := by
  have key : fldL (joinF st fs ++ endL st) = fs := by
    cases fs with
    | nil => unfold joinF endL; cases st.b2 <;> simp [fldL, splL]
    | cons f r =>
      obtain ⟨i1, i2⟩ := fld_joinL st r (fun g hg => h g (List.mem_cons_of_mem _ hg))
      have hf := h f List.mem_cons_self
      rw [joinF, List.append_assoc]
      rcases i2 with e | ⟨q, e⟩
      · rw [e] at i1 ⊢
        rw [fldL_nil] at i1
        rw [List.append_nil, fldL_one hf, ← i1]
      · rw [e] at i1 ⊢
        rw [fldL_cons hf, ← fldL_blank, i1]
  unfold bodyL padL
  cases st.b0 <;> simp only [reduceIte, Bool.false_eq_true, List.cons_append, List.nil_append, fldL_blank] <;> exact key
theorem joinL_nl (st : Sty) : ∀ (fs : List (List UInt8)), (∀ f ∈ fs, Gd f) → (10 : UInt8) ∉ joinL st fs
  | [], _ => by simp [joinL]
  | f :: r, h => by
    have h1 : (10 : UInt8) ∉ f := fun e => ((h f List.mem_cons_self).2 _ e).2 rfl
    have h2 := joinL_nl st r (fun g hg => h g (List.mem_cons_of_mem _ hg))
    rw [joinL, sepL]
    cases st.b1 <;> simp [h1, h2]
theorem body_nl (st : Sty) (fs : List (List UInt8)) (h : ∀ f ∈ fs, Gd f) : (10 : UInt8) ∉ bodyL st fs := by
  have hj : (10 : UInt8) ∉ joinF st fs := by
    cases fs with
    | nil => simp [joinF]
    | cons f r =>
      have h1 : (10 : UInt8) ∉ f := fun e => ((h f List.mem_cons_self).2 _ e).2 rfl
      have h2 := joinL_nl st r (fun g hg => h g (List.mem_cons_of_mem _ hg))
      simp [joinF, h1, h2]
  unfold bodyL padL endL
  cases st.b0 <;> cases st.b2 <;> simp [hj]
/-- the pieces of a text of lines -/
def blankL (st : Sty) : List (List UInt8) := if st.b3 = true then [[32]] else []
theorem spl_line (st : Sty) (fs : List (List UInt8)) (h : ∀ f ∈ fs, Gd f) (r : List UInt8) : splL 10 [] (lineL st fs ++ r) = bodyL st fs :: (blankL st ++ splL 10 [] r) := by
  unfold lineL
  rw [List.append_assoc, List.cons_append, splL_cons _ _ _ _ (body_nl st fs h)]
  unfold moreL blankL
  cases st.b3 <;> simp [splL]
end Co
end Go.Proofs.Ytphkgbbfkibfbaa
