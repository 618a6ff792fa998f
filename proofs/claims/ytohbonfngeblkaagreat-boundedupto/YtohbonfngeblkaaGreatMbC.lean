import Derived.Test.YtohbonfngeblkaaGreatMbB
namespace Go.Proofs.YtohbonfngeblkaaGreat
open Go.RowKit
namespace Co
abbrev lnA' (x0 x1 : Int) (s2 s3 : ByteArray) (a4 : Option Addr) (n4 c4 : Nat) : Value := .agg #[.int .i64 x0, .int .i64 x1, .string s2, .string s3, .slice a4 n4 c4]
def flatL : List (Ln × Value) → List Value
  | [] => []
  | p :: r => .int .i64 (p.1.place : Int) :: .int .i64 (p.1.kind : Int) :: .string p.1.name :: .string p.1.frm :: p.2 :: flatL r
theorem flatL_append : ∀ a b : List (Ln × Value), flatL (a ++ b) = flatL a ++ flatL b
  | [], b => rfl
  | p :: a, b => by simp [flatL, flatL_append a b]
theorem flatL_at : ∀ (ls : List (Ln × Value)) (i : Nat) (l : Ln) (sv : Value), ls[i]? = some (l, sv) → (flatL ls)[i * 5]? = some (.int .i64 (l.place : Int)) ∧ (flatL ls)[i * 5 + 1]? = some (.int .i64 (l.kind : Int)) ∧ (flatL ls)[i * 5 + 2]? = some (.string l.name) ∧ (flatL ls)[i * 5 + 3]? = some (.string l.frm) ∧ (flatL ls)[i * 5 + 4]? = some sv
  | [], i, l, sv, h => by simp at h
  | q :: r, 0, l, sv, h => by simp at h; subst h; simp [flatL]
  | q :: r, i + 1, l, sv, h => by
    have ih := flatL_at r i l sv (by simpa using h)
    have e0 : (i + 1) * 5 = i * 5 + 5 := by omega
    rw [e0]
    simp only [flatL]
    exact ih
theorem flatS_at : ∀ (ss : List (Nat × Nat)) (i : Nat) (a b : Nat), ss[i]? = some (a, b) → (flatS ss)[i * 2]? = some (.string (wordB a)) ∧ (flatS ss)[i * 2 + 1]? = some (.int .i64 (b : Int))
  | [], i, a, b, h => by simp at h
  | q :: r, 0, a, b, h => by simp at h; subst h; simp [flatS]
  | q :: r, i + 1, a, b, h => by
    have ih := flatS_at r i a b (by simpa using h)
    have e0 : (i + 1) * 2 = i * 2 + 2 := by omega
    rw [e0]
    simp only [flatS]
    exact ih
def LinesAt (w : World) (v : Value) (ls : List (Ln × Value)) : Prop := RowAt w v ls.length (flatL ls) ∧ ∀ p ∈ ls, RowAt w p.2 p.1.sets.length (flatS p.1.sets)
theorem LinesAt.nx {w w' : World} {v : Value} {ls : List (Ln × Value)} (h : LinesAt w v ls) (hb : Below w.heap.size w w') : LinesAt w' v ls := ⟨h.1.nx hb, fun p hp => (h.2 p hp).nx hb⟩
theorem LinesAt.at {w : World} {ao : Option Addr} {n cap : Nat} {ls : List (Ln × Value)} (h : LinesAt w (.slice ao n cap) ls) {k : Nat} {l : Ln} {sv : Value} (hk : ls[k]? = some (l, sv)) :
    ∃ b off so sc, ao = some ⟨b, off, none⟩ ∧ b < w.heap.size ∧ sv = .slice so l.sets.length sc ∧ RowAt w (.slice so l.sets.length sc) l.sets.length (flatS l.sets) ∧
      w.cell? ⟨b, off + k * 5, none⟩ = some (.int .i64 (l.place : Int)) ∧ w.cell? ⟨b, off + k * 5 + 1, none⟩ = some (.int .i64 (l.kind : Int)) ∧ w.cell? ⟨b, off + k * 5 + 2, none⟩ = some (.string l.name) ∧
      w.cell? ⟨b, off + k * 5 + 3, none⟩ = some (.string l.frm) ∧ w.cell? ⟨b, off + k * 5 + 4, none⟩ = some (.slice so l.sets.length sc) := by
  obtain ⟨f0, f1, f2, f3, f4⟩ := flatL_at ls k l sv hk
  obtain ⟨b, off, rfl, hb, g0⟩ := h.1.at f0
  have hin : ∀ j x, (flatL ls)[k * 5 + j]? = some x → w.cell? ⟨b, off + k * 5 + j, none⟩ = some x := by
    intro j x hx
    obtain ⟨b', off', e, _, g⟩ := h.1.at hx
    obtain ⟨rfl, rfl⟩ : b = b' ∧ off = off' := by simpa using e
    rw [Nat.add_assoc]; exact g
  have hs := h.2 (l, sv) (List.mem_of_getElem? hk)
  obtain ⟨so, sc, e, hcap, hrest⟩ := hs
  simp only at e
  refine ⟨b, off, so, sc, rfl, hb, e, ⟨so, sc, rfl, hcap, hrest⟩, g0, hin 1 _ f1, hin 2 _ f2, hin 3 _ f3, ?_⟩
  rw [← e]; exact hin 4 _ f4
theorem sets_at {w : World} {so : Option Addr} {n sc : Nat} {ss : List (Nat × Nat)} (h : RowAt w (.slice so n sc) n (flatS ss)) {k a b : Nat} (hk : ss[k]? = some (a, b)) :
    ∃ bl off, so = some ⟨bl, off, none⟩ ∧ bl < w.heap.size ∧ w.cell? ⟨bl, off + k * 2, none⟩ = some (.string (wordB a)) ∧ w.cell? ⟨bl, off + k * 2 + 1, none⟩ = some (.int .i64 (b : Int)) := by
  obtain ⟨f0, f1⟩ := flatS_at ss k a b hk
  obtain ⟨bl, off, rfl, hb, g0⟩ := h.at f0
  obtain ⟨b', off', e, _, g⟩ := h.at f1
  obtain ⟨rfl, rfl⟩ : bl = b' ∧ off = off' := by simpa using e
  exact ⟨bl, off, rfl, hb, g0, by rw [Nat.add_assoc]; exact g⟩
def fitsK (k : Nat) (n : Int) : Bool := match k with | 0 => inB 0 20 n | 1 => inB 0 20 n | 2 => inB 0 999 n | _ => inB 1 99 n
theorem fits_any (k : Nat) (n : Int) (w : World) :
    Calls Tryz.prog 99 #[.string (wordB k), .int .i64 n] w fun e w' => e = .returned (.bool (fitsK k n)) ∧ w' = w := by
  match k with
  | 0 => exact fits_size n w
  | 1 => exact fits_wait n w
  | 2 => exact fits_far n w
  | k + 3 => exact fits_budget n w
abbrev bLn (x0 x1 : Int) (s2 s3 : ByteArray) (a4 : Option Addr) (n4 c4 : Nat) : Obj := .cells #[.int .i64 x0, .int .i64 x1, .string s2, .string s3, .slice a4 n4 c4] 136
def allFit (ss : List (Nat × Nat)) : Bool := ss.all fun p => fitsK p.1 p.2
theorem allFit_cons (a b : Nat) (r : List (Nat × Nat)) : allFit ((a, b) :: r) = (fitsK a b && allFit r) := by simp [allFit]
set_option maxHeartbeats 1000000 in
theorem numbersFit_any (x0 x1 : Int) (s2 s3 : ByteArray) (so : Option Addr) (sc n : Nat) (ss : List (Nat × Nat)) (w : World) (hr : RowAt w (.slice so n sc) n (flatS ss)) (hn : ss.length = n) (hn1 : n ≤ 1001) :
    Calls Tryz.prog 130 #[lnA' x0 x1 s2 s3 so n sc] w fun e w' => e = .returned (.bool (allFit ss)) ∧ Below w.heap.size w w' := by
  have HN : Hid (ss.length = n) := hn
  have HR : Hid (RowAt (w.alloc (bLn x0 x1 s2 s3 so n sc)) (.slice so n sc) n (flatS ss)) := hr.nx (nx_alloc _ _)
  clear hr hn
  go_enter Tryz.func130, Tryz.ntmps130
  go_wp2_with fail
  go_loopw [3] (fun i wr => ∃ (k : Nat), k ≤ n ∧ i = .int .i64 k ∧ Hid (allFit (ss.drop k) = allFit ss) ∧ Below (w.alloc (bLn x0 x1 s2 s3 so n sc)).heap.size (w.alloc (bLn x0 x1 s2 s3 so n sc)) wr) (fun i _ => n - (intOf i).toNat)
  case atStart => exact ⟨0, Nat.zero_le _, rfl, rfl, Below.refl _ _⟩
  case round =>
    obtain ⟨k, hk, rfl, HS, hbel⟩ := hrel
    have hcell : wr.cell? ⟨w.heap.size, 4, none⟩ = some (.slice so n sc) := (hbel.cell (p := ⟨w.heap.size, 4, none⟩) (by simp)).trans (by simp)
    have HB : Hid (Below w.heap.size w wr) := nx_trans (nx_alloc _ _) hbel
    by_cases hlt : k < n
    · obtain ⟨⟨a, b⟩, hp⟩ : ∃ p, ss[k]? = some p := ⟨_, List.getElem?_eq_getElem (by rw [HN.out]; exact hlt)⟩
      obtain ⟨bl, off, rfl, hbl, c0, c1⟩ := sets_at (HR.out.nx hbel) hp
      have HD : Hid (ss.drop k = (a, b) :: ss.drop (k + 1)) := drop_at hp
      have hlti : (k : Int) < (n : Int) := by omega
      clear hp
      cases hf : fitsK a b
      · go_wp2_with fail
        go_quiet ((go_at_call 99; exact Calls.quiet_of_same (fits_any _ _ _)))
        rw [hf]
        go_wp2_with fail
        go_ret
        exact ⟨ret_bool (by rw [← HS.out, HD.out, allFit_cons, hf]; rfl), below_drewN HB.out _⟩
      · go_wp2_with fail
        go_quiet ((go_at_call 99; exact Calls.quiet_of_same (fits_any _ _ _)))
        rw [hf]
        go_wp2_with fail
        go_roundw
        case rel => exact ⟨k + 1, by omega, by go_num, (by show _ = _; rw [← HS.out, HD.out, allFit_cons, hf]; simp), below_drewN hbel _⟩
        case measure => simp [intOf]; omega
    · go_wp2_with fail
      go_ret
      exact ⟨ret_bool (by rw [← HS.out, List.drop_of_length_le (by rw [HN.out]; omega)]; rfl), HB.out⟩
def cnt (ls : List (Ln × Value)) (kind : Nat) : Nat := (ls.filter fun p => p.1.kind == kind).length
theorem cnt_snoc (ls : List (Ln × Value)) (kind k : Nat) (l : Ln) (sv : Value) (h : ls[k]? = some (l, sv)) : cnt (ls.take (k + 1)) kind = cnt (ls.take k) kind + (if l.kind = kind then 1 else 0) := by
  obtain ⟨hk, e⟩ := List.getElem?_eq_some_iff.1 h
  unfold cnt
  rw [List.take_succ_eq_append_getElem hk, List.filter_append, e, List.length_append]
  by_cases hh : l.kind = kind <;> simp [hh]
def many (ls : List (Ln × Value)) (kind : Nat) : Bool := if kind = 2 ∨ kind = 3 then decide (6 ≤ cnt ls kind) else false
set_option maxHeartbeats 1000000 in
theorem tooMany_any (x0 : Int) (kind : Nat) (s2 s3 : ByteArray) (so : Option Addr) (sc m : Nat) (ao : Option Addr) (cap n : Nat) (ls : List (Ln × Value)) (w : World) (hl : LinesAt w (.slice ao n cap) ls) (hn : ls.length = n) (hn1 : n ≤ 1001) (hkind : kind ≤ 3) :
    Calls Tryz.prog 131 #[lnA' x0 (kind : Int) s2 s3 so m sc, .slice ao n cap] w fun e w' => e = .returned (.bool (many ls kind)) ∧ Below w.heap.size w w' := by
  have HN : Hid (ls.length = n) := hn
  have HL : Hid (LinesAt (w.alloc (bLn x0 kind s2 s3 so m sc)) (.slice ao n cap) ls) := hl.nx (nx_alloc _ _)
  clear hl hn
  go_enter Tryz.func131, Tryz.ntmps131
  go_wp2_with fail
  go_loopw [5, 6] (fun c i wr => ∃ (k q : Nat), k ≤ n ∧ i = .int .i64 k ∧ c = .int .i64 q ∧ q ≤ k ∧ Hid (cnt (ls.take k) kind = q) ∧ Below (w.alloc (bLn x0 kind s2 s3 so m sc)).heap.size (w.alloc (bLn x0 kind s2 s3 so m sc)) wr) (fun _ i _ => n - (intOf i).toNat)
  case atStart => exact ⟨0, 0, Nat.zero_le _, rfl, rfl, Nat.le_refl _, rfl, Below.refl _ _⟩
  case round =>
    obtain ⟨k, q, hk, rfl, rfl, hq, HS, hbel⟩ := hrel
    have hcell : wr.cell? ⟨w.heap.size, 1, none⟩ = some (.int .i64 (kind : Int)) := (hbel.cell (p := ⟨w.heap.size, 1, none⟩) (by simp)).trans (by simp)
    have HB : Hid (Below w.heap.size w wr) := nx_trans (nx_alloc _ _) hbel
    by_cases hlt : k < n
    · obtain ⟨⟨l, sv⟩, hp⟩ : ∃ p, ls[k]? = some p := ⟨_, List.getElem?_eq_getElem (by rw [HN.out]; exact hlt)⟩
      obtain ⟨bl, off, so', sc', rfl, hbl, _, _, c0, c1, c2, c3, c4⟩ := (HL.out.nx hbel).at hp
      have HC := hideIt (cnt_snoc ls kind k l sv hp)
      have hlti : (k : Int) < (n : Int) := by omega
      clear hp c0 c2 c3 c4
      by_cases hkk : l.kind = kind
      · have hkb : ((l.kind : Int) == (kind : Int)) = true := by simp [hkk]
        have HK : Hid (l.kind = kind) := hkk
        clear hkk
        go_wp2_with fail
        go_quiet (fail)
        go_wp2_with fail
        go_roundw
        case rel => exact ⟨k + 1, q + 1, by omega, by go_num, by go_num, by omega, (by show _ = _; rw [HC.out, HS.out, if_pos HK.out]), below_drewN hbel _⟩
        case measure => simp [intOf]; omega
      · have hkb : ((l.kind : Int) == (kind : Int)) = false := by simp; omega
        have HK : Hid (¬ l.kind = kind) := hkk
        clear hkk
        go_wp2_with fail
        go_quiet (fail)
        go_wp2_with fail
        go_roundw
        case rel => exact ⟨k + 1, q, by omega, by go_num, rfl, by omega, (by show _ = _; rw [HC.out, HS.out, if_neg HK.out]; rfl), below_drewN hbel _⟩
        case measure => simp [intOf]; omega
    · have HQ : Hid (cnt ls kind = q) := by
        have h := HS.out
        rw [List.take_of_length_le (by rw [HN.out]; omega)] at h
        exact h
      by_cases h2 : kind = 2
      · subst h2
        go_wp2_with fail
        go_ret
        exact ⟨ret_bool (by rw [many, if_pos (.inl rfl), HQ.out, Bool.eq_iff_iff, decide_eq_true_iff, decide_eq_true_iff]; omega), HB.out⟩
      · have h2b : ((kind : Int) == 2) = false := by simp; omega
        by_cases h3 : kind = 3
        · subst h3
          go_wp2_with fail
          go_ret
          exact ⟨ret_bool (by rw [many, if_pos (.inr rfl), HQ.out, Bool.eq_iff_iff, decide_eq_true_iff, decide_eq_true_iff]; omega), HB.out⟩
        · have h3b : ((kind : Int) == 3) = false := by simp; omega
          have H23 : Hid (¬ (kind = 2 ∨ kind = 3)) := by intro h; omega
          clear h2 h3
          go_wp2_with fail
          go_ret
          exact ⟨ret_bool (by rw [many, if_neg H23.out]), HB.out⟩
def once (ss : List (Nat × Nat)) : Prop := ss.Pairwise fun a b => ¬ (wordB a.1).toList = (wordB b.1).toList
def twc (ss : List (Nat × Nat)) : Bool := !decide (ss.Pairwise fun a b => ¬ (wordB a.1).toList = (wordB b.1).toList)
theorem once_take {ss : List (Nat × Nat)} {k : Nat} {p : Nat × Nat} (h : ss[k]? = some p) (h1 : once (ss.take k)) (h2 : ∀ j q, j < k → ss[j]? = some q → ¬ (wordB q.1).toList = (wordB p.1).toList) : once (ss.take (k + 1)) := by
  obtain ⟨hk, e⟩ := List.getElem?_eq_some_iff.1 h
  unfold once at *
  rw [List.take_succ_eq_append_getElem hk, List.pairwise_append]
  refine ⟨h1, by simp, fun a ha b hb => ?_⟩
  simp at hb
  subst hb
  obtain ⟨j, hj⟩ := List.getElem?_of_mem ha
  have hjl : j < k := by
    have := (List.getElem?_eq_some_iff.1 hj).1
    simp at this; omega
  rw [List.getElem?_take, if_pos hjl] at hj
  rw [e]
  exact h2 j a hjl hj
theorem twc_bad {ss : List (Nat × Nat)} {j k : Nat} {q p : Nat × Nat} (hjk : j < k) (hq : ss[j]? = some q) (hp : ss[k]? = some p) (he : (wordB q.1).toList = (wordB p.1).toList) : twc ss = true := by
  unfold twc
  have : ¬ ss.Pairwise fun a b => ¬ (wordB a.1).toList = (wordB b.1).toList := by
    intro h
    obtain ⟨h1, rfl⟩ := List.getElem?_eq_some_iff.1 hq
    obtain ⟨h2, rfl⟩ := List.getElem?_eq_some_iff.1 hp
    exact List.pairwise_iff_getElem.1 h j k h1 h2 hjk he
  simp [this]
theorem twc_good {ss : List (Nat × Nat)} (h : once ss) : twc ss = false := by
  unfold twc; unfold once at h; simp [h]
set_option maxHeartbeats 2000000 in
theorem keyTwice_any (x0 x1 : Int) (s2 s3 : ByteArray) (so : Option Addr) (sc n : Nat) (ss : List (Nat × Nat)) (w : World) (hr : RowAt w (.slice so n sc) n (flatS ss)) (hn : ss.length = n) (hn1 : n ≤ 1001) :
    Calls Tryz.prog 132 #[lnA' x0 x1 s2 s3 so n sc] w fun e w' => e = .returned (.bool (twc ss)) ∧ Below w.heap.size w w' := by
  have HN : Hid (ss.length = n) := hn
  have HR : Hid (RowAt (w.alloc (bLn x0 x1 s2 s3 so n sc)) (.slice so n sc) n (flatS ss)) := hr.nx (nx_alloc _ _)
  clear hr hn
  go_enter Tryz.func132, Tryz.ntmps132
  go_wp2_with fail
  go_loopw [3] (fun i wr => ∃ (k : Nat), k ≤ n ∧ i = .int .i64 k ∧ Hid (once (ss.take k)) ∧ Below (w.alloc (bLn x0 x1 s2 s3 so n sc)).heap.size (w.alloc (bLn x0 x1 s2 s3 so n sc)) wr) (fun i _ => n - (intOf i).toNat)
  case atStart => exact ⟨0, Nat.zero_le _, rfl, List.Pairwise.nil, Below.refl _ _⟩
  case round =>
    obtain ⟨k, hk, rfl, HS, hbel⟩ := hrel
    have hcell : wr.cell? ⟨w.heap.size, 4, none⟩ = some (.slice so n sc) := (hbel.cell (p := ⟨w.heap.size, 4, none⟩) (by simp)).trans (by simp)
    by_cases hlt : k < n
    · obtain ⟨⟨a, b⟩, hp⟩ : ∃ p, ss[k]? = some p := ⟨_, List.getElem?_eq_getElem (by rw [HN.out]; exact hlt)⟩
      have HPk : Hid (ss[k]? = some (a, b)) := hp
      have HBL := hideIt hbel
      clear hp
      go_wp2_with fail
      go_loopw [4] (fun i wq => ∃ (j : Nat), j ≤ k ∧ i = .int .i64 j ∧ Hid (∀ j' q, j' < j → ss[j']? = some q → ¬ (wordB q.1).toList = (wordB a).toList) ∧ Below (w.alloc (bLn x0 x1 s2 s3 so n sc)).heap.size (w.alloc (bLn x0 x1 s2 s3 so n sc)) wq) (fun i _ => k - (intOf i).toNat)
      case atStart => exact ⟨0, Nat.zero_le _, rfl, (fun j' q h => by omega), HBL.out⟩
      case round =>
        obtain ⟨j, hj, rfl, HJ, hbel2⟩ := hrel
        have hcell2 : wr.cell? ⟨w.heap.size, 4, none⟩ = some (.slice so n sc) := (hbel2.cell (p := ⟨w.heap.size, 4, none⟩) (by simp)).trans (by simp)
        have HB : Hid (Below w.heap.size w wr) := nx_trans (nx_alloc _ _) hbel2
        by_cases hjk : j < k
        · obtain ⟨⟨a', b'⟩, hq⟩ : ∃ p, ss[j]? = some p := ⟨_, List.getElem?_eq_getElem (by rw [HN.out]; omega)⟩
          obtain ⟨bl, off, hso, hbl, c0, c1⟩ := sets_at (HR.out.nx hbel2) HPk.out
          obtain ⟨bl', off', e1, _, d0, d1⟩ := sets_at (HR.out.nx hbel2) hq
          rw [hso] at e1
          obtain ⟨rfl, rfl⟩ : bl = bl' ∧ off = off' := by simpa using e1
          rw [hso] at hcell2
          have HQ : Hid (ss[j]? = some (a', b')) := hq
          have HSO := hideIt hso
          have hi1 : (k : Int) < (n : Int) := by omega
          have hi2 : (j : Int) < (n : Int) := by omega
          clear hq e1 c1 d1 hso hcell
          by_cases hw : (wordB a').toList = (wordB a).toList
          · have hwb : ((wordB a').toList == (wordB a).toList) = true := by simp [hw]
            have HT : Hid (twc ss = true) := twc_bad hjk HQ.out HPk.out hw
            clear hw
            go_wp2_with fail
            go_quiet (fail)
            go_wp2_with fail
            go_ret
            exact ⟨ret_bool HT.out.symm, below_drewN HB.out _⟩
          · have hwb : ((wordB a').toList == (wordB a).toList) = false := by simp [hw]
            have HT : Hid (¬ (wordB a').toList = (wordB a).toList) := hw
            clear hw
            go_wp2_with fail
            go_quiet (fail)
            go_wp2_with fail
            go_roundw
            case rel => exact ⟨j + 1, by omega, by go_num, (fun j' q h h2 => by
              by_cases hjj : j' < j
              · exact HJ.out j' q hjj h2
              · obtain rfl : j' = j := by omega
                rw [HQ.out] at h2
                cases h2
                exact HT.out), below_drewN hbel2 _⟩
            case measure => simp [intOf]; omega
        · obtain rfl : j = k := by omega
          clear hcell
          go_wp2_with fail
          go_roundw
          case rel => exact ⟨j + 1, by omega, by go_num, once_take HPk.out HS.out HJ.out, hbel2⟩
          case measure => simp [intOf]; omega
    · go_wp2_with fail
      go_ret
      exact ⟨ret_bool (by rw [twc_good]; rw [← List.take_of_length_le (l := ss) (i := k) (by rw [HN.out]; omega)]; exact HS.out), nx_trans (nx_alloc _ _) hbel⟩
end Co
end Go.Proofs.YtohbonfngeblkaaGreat
namespace Go.Proofs.YtohbonfngeblkaaGreat
open Go.RowKit
namespace Co
abbrev bZero' : Obj := .cells #[.int .i64 0, .int .i64 0, .string ⟨#[]⟩, .string ⟨#[]⟩, .slice none 0 0] 136
def isL (kind : Nat) (name : ByteArray) (p : Ln × Value) : Bool := (p.1.kind == kind) && (p.1.name.toList == name.toList)
def findL (ls : List (Ln × Value)) (kind : Nat) (name : ByteArray) : Option (Ln × Value) := ls.find? (isL kind name)
theorem findL_hit {ls : List (Ln × Value)} {kind : Nat} {name : ByteArray} {k : Nat} {p : Ln × Value} (hd : ls.drop k = p :: ls.drop (k + 1)) (hs : findL (ls.drop k) kind name = findL ls kind name) (h : isL kind name p = true) : findL ls kind name = some p := by
  rw [← hs, hd, findL, List.find?_cons, h]
theorem findL_miss {ls : List (Ln × Value)} {kind : Nat} {name : ByteArray} {k : Nat} {p : Ln × Value} (hd : ls.drop k = p :: ls.drop (k + 1)) (hs : findL (ls.drop k) kind name = findL ls kind name) (h : isL kind name p = false) : findL (ls.drop (k + 1)) kind name = findL ls kind name := by
  rw [← hs, hd, findL, findL, List.find?_cons, h]
theorem findL_mem {ls : List (Ln × Value)} {kind : Nat} {name : ByteArray} {p : Ln × Value} (h : findL ls kind name = some p) : p ∈ ls := List.mem_of_find?_eq_some h
def Found (o : Option (Ln × Value)) (w w' : World) (e : Ending) : Prop :=
  (o = none ∧ e = .returned (lnA' 0 0 ⟨#[]⟩ ⟨#[]⟩ none 0 0) ∧ Below w.heap.size w w') ∨
  (∃ l so sc, o = some (l, .slice so l.sets.length sc) ∧ e = .returned (lnA' l.place l.kind l.name l.frm so l.sets.length sc) ∧ Below w.heap.size w w')
set_option maxHeartbeats 1000000 in
theorem find_any (kind : Nat) (name : ByteArray) (ao : Option Addr) (cap n : Nat) (ls : List (Ln × Value)) (w : World) (hl : LinesAt w (.slice ao n cap) ls) (hn : ls.length = n) (hn1 : n ≤ 1001) :
    Calls Tryz.prog 111 #[.slice ao n cap, .int .i64 (kind : Int), .string name] w fun e w' => Found (findL ls kind name) w w' e := by
  have HN : Hid (ls.length = n) := hn
  have HL : Hid (LinesAt (w.alloc bZero') (.slice ao n cap) ls) := hl.nx (nx_alloc _ _)
  clear hl hn
  go_enter Tryz.func111, Tryz.ntmps111
  go_wp2_with fail
  go_loop [7] (fun i => ∃ (k : Nat), k ≤ n ∧ i = .int .i64 k ∧ Hid (findL (ls.drop k) kind name = findL ls kind name)) (fun i => n - (intOf i).toNat)
  case atStart => exact ⟨0, Nat.zero_le _, rfl, rfl⟩
  case round =>
    obtain ⟨k, hk, rfl, HS⟩ := hrel
    by_cases hlt : k < n
    · obtain ⟨⟨l, sv⟩, hp⟩ : ∃ p, ls[k]? = some p := ⟨_, List.getElem?_eq_getElem (by rw [HN.out]; exact hlt)⟩
      obtain ⟨bl, off, so, sc, rfl, hbl, hsv, _, c0, c1, c2, c3, c4⟩ := HL.out.at hp
      subst hsv
      have HD : Hid (ls.drop k = (l, .slice so l.sets.length sc) :: ls.drop (k + 1)) := drop_at hp
      have hlti : (k : Int) < (n : Int) := by omega
      clear hp
      by_cases hkk : l.kind = kind
      · have hkb : ((l.kind : Int) == (kind : Int)) = true := by simp [hkk]
        have HK : Hid (l.kind = kind) := hkk
        clear hkk
        cases hnb : l.name.toList == name.toList
        · go_wp2_with fail
          go_round
          case rel => exact ⟨k + 1, by omega, by go_num, findL_miss HD.out HS.out (by simp [isL, hnb])⟩
          case measure => simp [intOf]; omega
        · have HF : Hid (findL ls kind name = some (l, .slice so l.sets.length sc)) := findL_hit HD.out HS.out (by simp [isL, hnb, HK.out])
          go_wp2_with fail
          refine bodyPost_ret (v := lnA' l.place l.kind l.name l.frm so l.sets.length sc) (by simp [results, Tryz.results111, go_sem]) rfl (.inr ⟨l, so, sc, HF.out, rfl, ?_⟩)
          exact nx_alloc _ _
      · have hkb : ((l.kind : Int) == (kind : Int)) = false := by simp; omega
        have HK : Hid (¬ l.kind = kind) := hkk
        clear hkk
        go_wp2_with fail
        go_round
        case rel => exact ⟨k + 1, by omega, by go_num, findL_miss HD.out HS.out (by simp [isL, HK.out])⟩
        case measure => simp [intOf]; omega
    · have HF : Hid (findL ls kind name = none) := by
        show _ = _
        rw [← HS.out, List.drop_of_length_le (by rw [HN.out]; omega)]; rfl
      go_wp2_with fail
      exact bodyPost_ret (v := lnA' 0 0 ⟨#[]⟩ ⟨#[]⟩ none 0 0) (by simp [results, Tryz.results111, go_sem]) rfl (.inl ⟨HF.out, rfl, nx_alloc _ _⟩)
theorem find_base (name : ByteArray) (ao : Option Addr) (cap n : Nat) (ls : List (Ln × Value)) (w : World) (hl : LinesAt w (.slice ao n cap) ls) (hn : ls.length = n) (hn1 : n ≤ 1001) :
    Calls Tryz.prog 111 #[.slice ao n cap, .int .i64 2, .string name] w fun e w' => Found (findL ls 2 name) w w' e := find_any 2 name ao cap n ls w hl hn hn1
def valL (ss : List (Nat × Nat)) (k : Nat) : Option Nat := (ss.find? fun p => (wordB p.1).toList == (wordB k).toList).map (·.2)
def valN (ss : List (Nat × Nat)) (k : Nat) : Int := match valL ss k with | some n => n | none => 0
theorem valL_hit {ss : List (Nat × Nat)} {key k a b : Nat} (hd : ss.drop k = (a, b) :: ss.drop (k + 1)) (hs : valL (ss.drop k) key = valL ss key) (h : ((wordB a).toList == (wordB key).toList) = true) : valL ss key = some b := by
  rw [← hs, hd, valL, List.find?_cons]; simp [h]
theorem valL_miss {ss : List (Nat × Nat)} {key k a b : Nat} (hd : ss.drop k = (a, b) :: ss.drop (k + 1)) (hs : valL (ss.drop k) key = valL ss key) (h : ((wordB a).toList == (wordB key).toList) = false) : valL (ss.drop (k + 1)) key = valL ss key := by
  rw [← hs, hd, valL, valL, List.find?_cons]; simp [h]
set_option maxHeartbeats 1000000 in
theorem numberOf_any (key : Nat) (x0 x1 : Int) (s2 s3 : ByteArray) (so : Option Addr) (sc n : Nat) (ss : List (Nat × Nat)) (w : World) (hr : RowAt w (.slice so n sc) n (flatS ss)) (hn : ss.length = n) (hn1 : n ≤ 1001) :
    Calls Tryz.prog 113 #[lnA' x0 x1 s2 s3 so n sc, .string (wordB key)] w fun e w' => e = .returned (.tuple #[.int .i64 (valN ss key), .bool (valL ss key).isSome]) ∧ Below w.heap.size w w' := by
  have HN : Hid (ss.length = n) := hn
  have HR : Hid (RowAt (w.alloc (bLn x0 x1 s2 s3 so n sc)) (.slice so n sc) n (flatS ss)) := hr.nx (nx_alloc _ _)
  clear hr hn
  go_enter Tryz.func113, Tryz.ntmps113
  go_wp2_with fail
  go_loop [6] (fun i => ∃ (k : Nat), k ≤ n ∧ i = .int .i64 k ∧ Hid (valL (ss.drop k) key = valL ss key)) (fun i => n - (intOf i).toNat)
  case atStart => exact ⟨0, Nat.zero_le _, rfl, rfl⟩
  case round =>
    obtain ⟨k, hk, rfl, HS⟩ := hrel
    by_cases hlt : k < n
    · obtain ⟨⟨a, b⟩, hp⟩ : ∃ p, ss[k]? = some p := ⟨_, List.getElem?_eq_getElem (by rw [HN.out]; exact hlt)⟩
      obtain ⟨bl, off, rfl, hbl, c0, c1⟩ := sets_at HR.out hp
      have HD : Hid (ss.drop k = (a, b) :: ss.drop (k + 1)) := drop_at hp
      have hlti : (k : Int) < (n : Int) := by omega
      clear hp
      cases hw : (wordB a).toList == (wordB key).toList
      · go_wp2_with fail
        go_round
        case rel => exact ⟨k + 1, by omega, by go_num, valL_miss HD.out HS.out hw⟩
        case measure => simp [intOf]; omega
      · have HV : Hid (valL ss key = some b) := valL_hit HD.out HS.out hw
        go_wp2_with fail
        go_ret2
        exact ⟨ret_ib (by simp [valN, HV.out]) (by simp [HV.out]), nx_alloc _ _⟩
    · have HV : Hid (valL ss key = none) := by
        show _ = _
        rw [← HS.out, List.drop_of_length_le (by rw [HN.out]; omega)]; rfl
      go_wp2_with fail
      go_ret2
      exact ⟨ret_ib (by simp [valN, HV.out]) (by simp [HV.out]), nx_alloc _ _⟩
end Co
end Go.Proofs.YtohbonfngeblkaaGreat
