
import Derived.Test.YtehehkahmpbjhaaDoorLoB
namespace Go.Proofs.YtehehkahmpbjhaaDoor
open Go.RowKit
namespace Co
/-- a line without its place -/
abbrev np (l : Ln) : Ln := { l with place := 0 }
theorem find_np : ∀ (ls : List Ln) (k : Nat) (nm : ByteArray), (findC ls k nm).map np = findC (ls.map np) k nm
  | [], _, _ => rfl
  | p :: r, k, nm => by
    have ih := find_np r k nm
    simp only [findC, List.map_cons, List.find?_cons] at ih ⊢
    cases (p.kind == k && p.name.toList == nm.toList) with
    | true => rfl
    | false => exact ih
theorem cnt_np (ls : List Ln) (k : Nat) : cntC (ls.map np) k = cntC ls k := by
  simp only [cntC, List.filter_map, List.length_map]
  rfl
theorem fault_np (ls : List Ln) (l : Ln) : faultC (ls.map np) l = faultC ls l := by
  unfold faultC manyC
  rw [cnt_np, ← find_np, Option.isSome_map, List.length_map]
theorem ch_np (ls : List Ln) : ∀ (f : Nat) (nm : ByteArray), (chC ls f nm).map np = chC (ls.map np) f nm
  | 0, _ => rfl
  | f + 1, nm => by
    rw [chC, chC, ← find_np]
    cases findC ls 2 nm with
    | none => rfl
    | some p => simp only [Option.map_some, List.map_cons]; rw [ch_np ls f]
theorem chv_np (key : Nat) (other : Int) : ∀ ls : List Ln, chvC key other (ls.map np) = chvC key other ls
  | [] => rfl
  | p :: r => by
    have ih := chv_np key other r
    simp only [List.map_cons, chvC] at ih ⊢
    rw [ih]
theorem val_np (key : Nat) (other : Int) (ss : List (Nat × Nat)) (ch : List Ln) : valC key other ss (ch.map np) = valC key other ss ch := by
  unfold valC
  rw [chv_np]
theorem pl_np (ls : List Ln) (l : Ln) : plC (ls.map np) (np l) = plC ls l := by
  unfold plC
  simp only
  rw [← ch_np, val_np, val_np, val_np]
theorem st_np (ls : List Ln) (x : Int × List Pl) (l : Ln) : stC (ls.map np) x (np l) = stC ls x l := by
  unfold stC
  rw [pl_np]
theorem tab_np (ls : List Ln) : tabC (ls.map np) = tabC ls := by
  unfold tabC
  rw [List.foldl_map]
  congr 1
  funext x l
  exact st_np ls x l
theorem lon_zero (all : List Ln) (most : Nat) : ∀ ls : List Ln, (∀ l ∈ ls, (chC all 7 l.frm).length ≤ most) → lonC all most ls = 0
  | [], _ => rfl
  | p :: r, h => by
    rw [lonC, if_neg (by have := h p List.mem_cons_self; omega)]
    exact lon_zero all most r (fun l hl => h l (List.mem_cons_of_mem _ hl))
theorem no_none (all : List Ln) : ∀ ls : List Ln, (∀ l ∈ ls, baC all l.frm = true) → noC all ls = none
  | [], _ => rfl
  | p :: r, h => by
    rw [noC, if_pos (h p List.mem_cons_self)]
    exact no_none all r (fun l hl => h l (List.mem_cons_of_mem _ hl))
/-- no line has a fault -/
def okA : List Ln → List Ln → Prop
  | _, [] => True
  | acc, l :: r => faultC acc l = 0 ∧ okA (acc ++ [l]) r
theorem okA_append : ∀ (a acc b : List Ln), okA acc a → okA (acc ++ a) b → okA acc (a ++ b)
  | [], acc, b, _, h => by simpa using h
  | l :: a, acc, b, h, h2 => by
    refine ⟨h.1, okA_append a (acc ++ [l]) b h.2 (by simpa using h2)⟩
/-- lines and what they are -/
def LnOf (fs : List (List UInt8)) (l : Ln) : Prop := fs ≠ [] ∧ (∀ f ∈ fs, Gd f) ∧ parseF (fs.map mk) = some l ∧ l.place = 0
theorem flds_of {s : ByteArray} {fs : List (List UInt8)} (h : fldL (tl s) = fs) : flds s = fs.map mk := by
  rw [← h, ← flds_list, List.map_map]
  symm
  refine (List.map_congr_left (fun p _ => ?_)).trans (List.map_id _)
  exact mk_tl p
theorem rdC_blank {i : Nat} {acc : List Ln} {p : ByteArray} {r : List ByteArray} (h : fldL (tl p) = []) : rdC i acc (p :: r) = rdC (i + 1) acc r := by
  rw [rdC, if_pos (by rw [flds_of h]; rfl)]
theorem rdC_line {i : Nat} {acc : List Ln} {p : ByteArray} {r : List ByteArray} {fs : List (List UInt8)} {l : Ln} (hl : LnOf fs l) (h : fldL (tl p) = fs) (hf : faultC acc l = 0) :
    rdC i acc (p :: r) = rdC (i + 1) (acc ++ [{ l with place := i + 1 }]) r := by
  have e := flds_of h
  have h0 : ¬ (flds p).length = 0 := by
    rw [e, List.length_map]
    intro h1
    exact hl.1 (List.length_eq_zero_iff.1 h1)
  rw [rdC, if_neg h0, e, hl.2.2.1]
  simp only
  rw [if_pos hf]
def bodies (st : Sty) (ls : List (List (List UInt8))) : List (List UInt8) := ls.flatMap fun fs => bodyL st fs :: blankL st
theorem spl_text (st : Sty) : ∀ ls : List (List (List UInt8)), (∀ fs ∈ ls, ∀ f ∈ fs, Gd f) → splL 10 [] (ls.flatMap (lineL st)) = bodies st ls ++ [[]]
  | [], _ => by simp [bodies, splL]
  | fs :: r, h => by
    rw [List.flatMap_cons, spl_line st fs (h fs List.mem_cons_self), spl_text st r (fun g hg => h g (List.mem_cons_of_mem _ hg))]
    simp [bodies]
theorem rdC_text (st : Sty) : ∀ (ps : List (List (List UInt8) × Ln)) (i : Nat) (acc : List Ln), (∀ p ∈ ps, LnOf p.1 p.2) → okA (acc.map np) (ps.map Prod.snd) → (acc ≠ [] ∨ ps ≠ []) →
    ∃ ls, rdC i acc ((bodies st (ps.map Prod.fst) ++ [[]]).map mk) = ⟨ls, 0, 0⟩ ∧ ls.map np = acc.map np ++ ps.map Prod.snd
  | [], i, acc, _, _, hne => by
    have hne : acc ≠ [] := by simpa using hne
    refine ⟨acc, ?_, by simp⟩
    have e : rdC i acc ((bodies st (([] : List (List (List UInt8) × Ln)).map Prod.fst) ++ [[]]).map mk) = rdC (i + 1) acc [] := rdC_blank (p := mk []) (r := []) (by rw [tl_mk, fldL_nil])
    rw [e, rdC, if_neg (fun h => hne (List.length_eq_zero_iff.1 h))]
  | q :: r, i, acc, h, ho, _ => by
    obtain ⟨fs, l⟩ := q
    have hq := h (fs, l) List.mem_cons_self
    simp only at hq
    have hp0 := hq.2.2.2
    simp only [List.map_cons, okA] at ho
    have hf : faultC acc l = 0 := by rw [← fault_np]; exact ho.1
    have enp : ∀ k, np { l with place := k } = l := by
      intro k
      cases l
      simp only at hp0
      subst hp0
      rfl
    have ho2 : okA ((acc ++ [{ l with place := i + 1 }]).map np) (r.map Prod.snd) := by
      rw [List.map_append, List.map_cons, enp, List.map_nil]; exact ho.2
    have hr : ∀ p ∈ r, LnOf p.1 p.2 := fun p hp => h p (List.mem_cons_of_mem _ hp)
    have hb : fldL (tl (mk (bodyL st fs))) = fs := by rw [tl_mk]; exact fld_body st fs hq.2.1
    have e1 : rdC i acc ((bodies st (((fs, l) :: r).map Prod.fst) ++ [[]]).map mk) = rdC (i + 1) (acc ++ [{ l with place := i + 1 }]) ((blankL st ++ (bodies st (r.map Prod.fst) ++ [[]])).map mk) := by
      have e0 : (bodies st (((fs, l) :: r).map Prod.fst) ++ [[]]).map mk = mk (bodyL st fs) :: ((blankL st ++ (bodies st (r.map Prod.fst) ++ [[]])).map mk) := by
        simp [bodies]
      rw [e0, rdC_line hq hb hf]
    have e2 : ∃ j, rdC (i + 1) (acc ++ [{ l with place := i + 1 }]) ((blankL st ++ (bodies st (r.map Prod.fst) ++ [[]])).map mk) = rdC j (acc ++ [{ l with place := i + 1 }]) ((bodies st (r.map Prod.fst) ++ [[]]).map mk) := by
      unfold blankL
      cases st.b3
      · exact ⟨i + 1, by simp⟩
      · refine ⟨i + 2, ?_⟩
        have : ((if true = true then [[(32 : UInt8)]] else []) ++ (bodies st (r.map Prod.fst) ++ [[]])).map mk = mk [32] :: ((bodies st (r.map Prod.fst) ++ [[]]).map mk) := by simp
        rw [this]
        exact rdC_blank (by rw [tl_mk, fldL_blank, fldL_nil])
    obtain ⟨j, e2⟩ := e2
    obtain ⟨ls, h1, h2⟩ := rdC_text st r j (acc ++ [{ l with place := i + 1 }]) hr ho2 (.inl (by simp))
    refine ⟨ls, by rw [e1, e2, h1], ?_⟩
    rw [h2, List.map_append, List.map_cons, enp]
    simp
theorem rd_text (st : Sty) (s : ByteArray) (ps : List (List (List UInt8) × Ln)) (hs : tl s = (ps.map Prod.fst).flatMap (lineL st)) (h : ∀ p ∈ ps, LnOf p.1 p.2) (ho : okA [] (ps.map Prod.snd)) (hne : ps ≠ []) :
    ∃ ls, rd s = ⟨ls, 0, 0⟩ ∧ ls.map np = ps.map Prod.snd := by
  have hg : ∀ fs ∈ ps.map Prod.fst, ∀ f ∈ fs, Gd f := by
    intro fs hfs
    obtain ⟨p, hp, rfl⟩ := List.mem_map.1 hfs
    exact (h p hp).2.1
  have e : pieces s 10 = (bodies st (ps.map Prod.fst) ++ [[]]).map mk := by
    rw [← spl_text st _ hg, ← hs, ← pieces_list s 10, List.map_map]
    symm
    refine (List.map_congr_left (fun p _ => ?_)).trans (List.map_id _)
    exact mk_tl p
  obtain ⟨ls, h1, h2⟩ := rdC_text st ps 0 [] h ho (.inr hne)
  exact ⟨ls, by rw [rd, e, h1], by simpa using h2⟩
end Co
end Go.Proofs.YtehehkahmpbjhaaDoor
