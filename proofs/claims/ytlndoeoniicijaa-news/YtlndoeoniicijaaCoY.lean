
import Derived.Test.YtlndoeoniicijaaCoX
namespace Go.Proofs.Ytlndoeoniicijaa
open Go.RowKit
namespace Co

theorem ba_of {s : ByteArray} {l : List UInt8} (h : (s.toList == l) = true) : s = ⟨l.toArray⟩ := by
  apply ba_ext
  rw [← ByteArray.toList_eq]
  simpa using h
theorem formed_any (fs : List ByteArray) (pl : Int) (ao : Option Addr) (cap n : Nat) (w : World) (hr : RowAt w (.slice ao n cap) n (strs fs)) (hn : fs.length = n) (hn1 : n ≤ 1001) (hn0 : 0 < n) (hsm : ∀ p ∈ fs, p.size ≤ 1000) :
    Calls Try.prog 43 #[.slice ao n cap, .int .i64 pl] w fun e w' => RMade (parseF fs) pl w w' e := by
  match fs, hr, hn, hsm with
  | [], _, hn, _ => simp at hn; omega
  | wd :: r, hr, hn, hsm =>
    cases hB : wd.toList == [98, 117, 100, 103, 101, 116]
    · by_cases hbad : ((wd.toList == [98, 97, 115, 101]) = false ∧ (wd.toList == [112, 111, 111, 108]) = false) ∨ n < 2
      · refine formed_bad wd r pl ao cap n w hr hn hn1 hB hbad _ ?_
        rw [parseF, hB]
        simp only [Bool.false_eq_true, if_false]
        rcases hbad with ⟨h1, h2⟩ | h
        · rw [h1, h2]; rfl
        · obtain rfl : r = [] := List.eq_nil_of_length_eq_zero (by simp at hn; omega)
          split
          · rfl
          · split <;> rfl
      · match r, hr, hn, hsm with
        | [], _, hn, _ => exact absurd (.inr (by simp at hn; omega)) hbad
        | nm :: r2, hr, hn, hsm =>
          cases hA : wd.toList == [98, 97, 115, 101]
          · cases hP : wd.toList == [112, 111, 111, 108]
            · exact absurd (.inl ⟨hA, hP⟩) hbad
            · have e : parseF (wd :: nm :: r2) = namedF 3 (nm :: r2) := by rw [parseF, hB, hA, hP]; rfl
              rw [e]
              exact formed_nm 3 wd nm r2 pl ao cap n w hr hn hn1 (fun p hp => hsm p (List.mem_cons_of_mem _ hp)) hB false true hA hP rfl (ba_of hP) (by omega)
          · have e : parseF (wd :: nm :: r2) = namedF 2 (nm :: r2) := by rw [parseF, hB, hA]; rfl
            rw [e]
            exact formed_nm 2 wd nm r2 pl ao cap n w hr hn hn1 (fun p hp => hsm p (List.mem_cons_of_mem _ hp)) hB true _ hA rfl rfl (ba_of hA) (by omega)
    · have e : parseF (wd :: r) = budF r := by rw [parseF, hB]; rfl
      rw [e]
      obtain rfl : wd = sBudget := ba_of hB
      exact formed_bud r pl ao cap n w hr hn hn1 (fun p hp => hsm p (List.mem_cons_of_mem _ hp))

theorem setsF_keys : ∀ (l : List ByteArray) (ss : List (Nat × Nat)), setsF l = some ss → ∀ p ∈ ss, p.1 ≤ 2
  | [], ss, h => by cases h; simp
  | [_], ss, h => by cases h
  | k :: n :: r, ss, h => by
    rw [setsF] at h
    split at h
    · rename_i a b l ha hb hl
      cases h
      intro p hp
      rcases List.mem_cons.1 hp with h | h
      · subst h; exact (keyF_word ha).2
      · exact setsF_keys r l hl p h
    · cases h
theorem namedF_ok {kind : Nat} {fs : List ByteArray} {l : Ln} (hk : kind = 2 ∨ kind = 3) (h : namedF kind fs = some l) : OkL l := by
  have key : ∀ {fs2 : List ByteArray} {nm fr : ByteArray}, isNm nm = true → (setsF fs2).map (fun ss => (⟨kind, nm, fr, ss, 0⟩ : Ln)) = some l → OkL l := by
    intro fs2 nm fr hnm h
    cases hs : setsF fs2 with
    | none => rw [hs] at h; cases h
    | some ss =>
      rw [hs] at h
      simp only [Option.map_some, Option.some.injEq] at h
      subst h
      exact .inr ⟨hk, hnm, setsF_keys _ _ hs⟩
  match fs, h with
  | [], h => cases h
  | nm :: r, h =>
    cases hf : fromB r
    · rw [named_rest hf] at h
      split at h
      · rename_i hnm; exact key hnm h
      · cases h
    · match r, hf, h with
      | [], hf, _ => cases hf
      | [f], hf, h => rw [named_from0 hf] at h; cases h
      | f :: b :: r3, hf, h =>
        rw [named_from hf] at h
        split at h
        · rename_i hnm
          simp only [Bool.and_eq_true] at hnm
          exact key hnm.1 h
        · cases h
theorem parseF_ok {fs : List ByteArray} {l : Ln} (h : parseF fs = some l) : OkL l := by
  match fs, h with
  | [], h => cases h
  | f0 :: rest, h =>
    rw [parseF] at h
    split at h
    · match rest, h with
      | [], h => cases h
      | [a], h =>
        rw [budF] at h
        cases hn : numF a with
        | none => rw [hn] at h; cases h
        | some x =>
          rw [hn] at h
          simp only [Option.map_some, Option.some.injEq] at h
          subst h
          exact .inl ⟨rfl, rfl, rfl, _, rfl⟩
      | a :: b :: c, h => cases h
    · split at h
      · exact namedF_ok (.inl rfl) h
      · split at h
        · exact namedF_ok (.inr rfl) h
        · cases h

theorem wrong_any (l : Ln) (hok : OkL l) (hm1 : l.sets.length ≤ 1001) (ko : Option Addr) (kc : Nat) (vo : Option Addr) (vc : Nat) (pl : Int) (ao : Option Addr) (cap n : Nat) (ls : List RL) (w : World) (hl : RLinesAt w (.slice ao n cap) ls) (hn : ls.length = n) (hn1 : n ≤ 1001)
    (hr : RowAt w (.slice ko (keysOf l).length kc) (keysOf l).length (ints (keysOf l))) (hr2 : RowAt w (.slice vo l.sets.length vc) l.sets.length (ints (valsOf l))) :
    Calls Try.prog 44 #[.slice ao n cap, rlA (kwK l.kind) l.name l.frm ko (keysOf l).length kc vo l.sets.length vc pl, .bool true] w fun e w' => e = .returned (.int .i64 (faultC (bareR ls) l)) ∧ Below w.heap.size w w' := by
  rcases hok with ⟨hk, hnm, hfr, x, hs⟩ | ⟨hk, hnm, hkeys⟩
  · obtain ⟨kind, name, frm, ss, place⟩ := l
    simp only at hk hnm hfr hs
    subst hk hs
    exact wrong_bud x name frm ko kc vo vc pl place ao cap n ls w hl hn hn1 hr2
  · have hkl : keysOf l = l.sets.map (·.1) := by rw [keysOf, if_neg (by omega)]
    rw [hkl, List.length_map] at hr
    rw [hkl, List.length_map]
    rcases hk with hk | hk
    · rw [hk]; exact wrong_2 l hk hkeys _ rfl hm1 ko kc vo vc pl ao cap n ls w hl hn hn1 hr hr2
    · rw [hk]; exact wrong_3 l hk hkeys _ rfl hm1 ko kc vo vc pl ao cap n ls w hl hn hn1 hr hr2

/-- the lists of the lines lie apart from the lines' own row -/
def RSv (w : World) (p : RL) : Prop := Lists w p ∧ (∀ so n sc, p.2.1 = .slice so n sc → FrI w so) ∧ (∀ so n sc, p.2.2 = .slice so n sc → FrI w so)
theorem RSv.nx {w w' : World} {p : RL} (h : RSv w p) (hb : Below w.heap.size w w') : RSv w' p := ⟨h.1.nx hb, fun so n sc e => (h.2.1 so n sc e).nx hb, fun so n sc e => (h.2.2 so n sc e).nx hb⟩
theorem FrI.ne {w : World} {so : Option Addr} (h : FrI w so) {row : Option Nat} (hrow : ∀ g, row = some g → ∃ cur, w.heap[g]? = some (.cells cur 93 (0, 0))) : ∀ b off, so = some ⟨b, off, none⟩ → row ≠ some b := by
  intro b off e e3
  obtain ⟨cur, h2⟩ := h b off e
  obtain ⟨cur', h3⟩ := hrow b e3
  rw [h2] at h3
  simp at h3
theorem FrI.grown {w w' : World} {so : Option Addr} {row : Option Nat} (h : FrI w so) (hg : w.grownBy w' row) (hrow : ∀ g, row = some g → ∃ cur, w.heap[g]? = some (.cells cur 93 (0, 0))) : FrI w' so := by
  intro b off e
  obtain ⟨cur, h2⟩ := h b off e
  exact ⟨cur, (hg.block b (Array.getElem?_eq_some_iff.1 h2).1 (fun e' => h.ne hrow b off e e'.symm)).trans h2⟩
theorem RSv.grown {w w' : World} {p : RL} {row : Option Nat} (h : RSv w p) (hg : w.grownBy w' row) (hrow : ∀ g, row = some g → ∃ cur, w.heap[g]? = some (.cells cur 93 (0, 0))) : RSv w' p := by
  refine ⟨⟨row_grown h.1.1 hg (fun so m sc b off e1 e2 => (h.2.1 so m sc e1).ne hrow b off e2), row_grown h.1.2 hg (fun so m sc b off e1 e2 => (h.2.2 so m sc e1).ne hrow b off e2)⟩, fun so n sc e => (h.2.1 so n sc e).grown hg hrow, fun so n sc e => (h.2.2 so n sc e).grown hg hrow⟩

/-- what read answers -/
def RRead (s : ByteArray) (w w' : World) (e : Ending) : Prop :=
  ((rd s).err ≠ 0 ∧ e = .returned (.tuple #[.slice none 0 0, .int .i64 (rd s).err, .int .i64 (rd s).at']) ∧ Below w.heap.size w w') ∨
  (∃ ls ao cap, (rd s).err = 0 ∧ (rd s).lines = bareR ls ∧ ls.length ≤ 1001 ∧ 0 < ls.length ∧ e = .returned (.tuple #[.slice ao ls.length cap, .int .i64 0, .int .i64 0]) ∧ RLinesAt w' (.slice ao ls.length cap) ls ∧ Below w.heap.size w w')
theorem info_rl : (Try.prog.info? 93).map (fun i => (i.zero, i.size, i.bytes)) = some (some (.agg #[.string ⟨#[]⟩, .string ⟨#[]⟩, .string ⟨#[]⟩, .slice none 0 0, .slice none 0 0, .int .i64 0]), 6, 104) := by kernel_rfl
theorem rdC_bad' {i : Nat} {acc : List Ln} {p : ByteArray} {r : List ByteArray} (h : ¬ (flds p).length = 0) (hb : parseF (flds p) = none) : rdC i acc (p :: r) = ⟨[], 2, i + 1⟩ := by
  rw [rdC, if_neg h, hb]
theorem rdC_bad2 {i : Nat} {acc : List Ln} {p : ByteArray} {r : List ByteArray} {l : Ln} (h : ¬ (flds p).length = 0) (hl : parseF (flds p) = some l) (hb : faultC acc l ≠ 0) : rdC i acc (p :: r) = ⟨[], faultC acc l, i + 1⟩ := by
  rw [rdC, if_neg h, hl]
  simp only
  rw [if_neg hb]
theorem rdC_good' {i : Nat} {acc : List Ln} {p : ByteArray} {r : List ByteArray} {l : Ln} (h : ¬ (flds p).length = 0) (hl : parseF (flds p) = some l) (hb : faultC acc l = 0) : rdC i acc (p :: r) = rdC (i + 1) (acc ++ [{ l with place := i + 1 }]) r := by
  rw [rdC, if_neg h, hl]
  simp only
  rw [if_pos hb]
end Co
end Go.Proofs.Ytlndoeoniicijaa
