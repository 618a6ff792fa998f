
import Derived.Test.YtehehkahmpbjhaaDoorCoH
namespace Go.Proofs.YtehehkahmpbjhaaDoor
open Go.RowKit
namespace Co

/-- the fault of a line behind others -/
def faultN (ls : List (Ln × Value)) (l : Ln) : Nat :=
  if decide (ls.length = 0) != decide (l.kind = 1) then 2
  else if allFit l.sets = false then 3
  else if many ls l.kind = true then 4
  else if twc l.sets = true then 5
  else if (findL ls l.kind l.name).isSome = true then 5 else 0

theorem int_eq0 (n : Nat) : ((n : Int) == 0) = decide (n = 0) := by rw [Bool.eq_iff_iff]; simp
theorem int_eq1 (n : Nat) : ((n : Int) == 1) = decide (n = 1) := by rw [Bool.eq_iff_iff]; simp; omega
theorem findL_kind {ls : List (Ln × Value)} {kind : Nat} {name : ByteArray} {p : Ln × Value} (h : findL ls kind name = some p) : p.1.kind = kind := by
  have := List.find?_some h
  simp [isL] at this
  exact this.1

set_option maxHeartbeats 2000000 in
theorem faultOf_any (l : Ln) (x0 : Int) (so : Option Addr) (sc : Nat) (ao : Option Addr) (cap n : Nat) (ls : List (Ln × Value)) (w : World) (hl : LinesAt w (.slice ao n cap) ls) (hn : ls.length = n) (hn1 : n ≤ 1001)
    (hr : RowAt w (.slice so l.sets.length sc) l.sets.length (flatS l.sets)) (hs1 : l.sets.length ≤ 1001) (hk1 : 1 ≤ l.kind) (hk3 : l.kind ≤ 3) :
    Calls Tryd.prog 37 #[lnA' x0 l.kind l.name l.frm so l.sets.length sc, .slice ao n cap] w fun e w' => e = .returned (.int .i64 (faultN ls l)) ∧ Below w.heap.size w w' := by
  obtain ⟨kind, name, frm, ss, pl⟩ := l
  simp only at hr hs1 hk1 hk3 ⊢
  obtain ⟨m, hm⟩ : ∃ m, ss.length = m := ⟨_, rfl⟩
  rw [hm] at hr hs1 ⊢
  obtain ⟨W1, hW1⟩ : ∃ W1, W1 = w.alloc (bLn x0 kind name frm so m sc) := ⟨_, rfl⟩
  have hb1 : Below w.heap.size w W1 := by rw [hW1]; exact nx_alloc _ _
  have HW : Hid (W1 = w.alloc (bLn x0 kind name frm so m sc) ∧ Below w.heap.size w W1 ∧ w.heap.size < W1.heap.size ∧ W1.heap[w.heap.size]? = some (.cells #[.int .i64 x0, .int .i64 (kind : Int), .string name, .string frm, .slice so m sc] 60 (0, 0))) :=
    ⟨hW1, hb1, by rw [hW1]; simp, by rw [hW1]; show (w.heap.push _)[w.heap.size]? = _; simp⟩
  have HL : Hid (LinesAt W1 (.slice ao n cap) ls ∧ ls.length = n) := ⟨hl.nx hb1, hn⟩
  have HR : Hid (RowAt W1 (.slice so m sc) m (flatS ss) ∧ ss.length = m) := ⟨hr.nx hb1, hm⟩
  have HFN : Hid (faultN ls ⟨kind, name, frm, ss, pl⟩ = (if decide (n = 0) != decide (kind = 1) then 2 else if allFit ss = false then 3 else if many ls kind = true then 4 else if twc ss = true then 5 else if (findL ls kind name).isSome = true then 5 else 0)) := by
    show _ = _
    rw [faultN, hn]
  clear hl hn hr hm hW1 hb1
  have hcells : ∀ wx, Below W1.heap.size W1 wx → wx.cell? ⟨w.heap.size, 0, none⟩ = some (.int .i64 x0) ∧ wx.cell? ⟨w.heap.size, 1, none⟩ = some (.int .i64 (kind : Int)) ∧ wx.cell? ⟨w.heap.size, 2, none⟩ = some (.string name) ∧ wx.cell? ⟨w.heap.size, 3, none⟩ = some (.string frm) ∧ wx.cell? ⟨w.heap.size, 4, none⟩ = some (.slice so m sc) := by
    intro wx hb
    have h' : wx.heap[w.heap.size]? = some (.cells #[.int .i64 x0, .int .i64 (kind : Int), .string name, .string frm, .slice so m sc] 60 (0, 0)) := (hb.block _ HW.out.2.2.1).trans HW.out.2.2.2
    refine ⟨?_, ?_, ?_, ?_, ?_⟩ <;> simp [World.cell?, h']
  have HCE := hideIt hcells
  clear hcells
  by_cases hfirst : (decide (n = 0) != decide (kind = 1)) = true
  · have HF : Hid (faultN ls ⟨kind, name, frm, ss, pl⟩ = 2) := by show _ = _; rw [HFN.out, if_pos hfirst]
    obtain ⟨q, hq1, hq2⟩ : ∃ q, ((n : Int) == 0) = q ∧ ((kind : Int) == 1) = !q := ⟨decide (n = 0), int_eq0 n, by
      rw [int_eq1]
      revert hfirst
      cases decide (n = 0) <;> cases decide (kind = 1) <;> simp⟩
    clear hfirst
    go_enter Tryd.func37, Tryd.ntmps37
    go_wp2_with fail
    go_ret
    exact ⟨ret_i (by rw [HF.out]; rfl), nx_alloc _ _⟩
  obtain ⟨q, hq1, hq2⟩ : ∃ q, ((n : Int) == 0) = q ∧ ((kind : Int) == 1) = q := ⟨decide (n = 0), int_eq0 n, by
    rw [int_eq1]
    revert hfirst
    cases decide (n = 0) <;> cases decide (kind = 1) <;> simp⟩
  have HF0 : Hid (faultN ls ⟨kind, name, frm, ss, pl⟩ = (if allFit ss = false then 3 else if many ls kind = true then 4 else if twc ss = true then 5 else if (findL ls kind name).isSome = true then 5 else 0)) := by
    show _ = _
    rw [HFN.out, if_neg hfirst]
  clear hfirst HFN
  go_enter Tryd.func37, Tryd.ntmps37
  go_wp2_with fail
  rw [← HW.out.1]
  refine (numbersFit_any x0 kind name frm so sc m ss W1 HR.out.1 HR.out.2 hs1).mono ?_; rintro e w2 ⟨rfl, hb2⟩
  cases hfit : allFit ss
  · have HF : Hid (faultN ls ⟨kind, name, frm, ss, pl⟩ = 3) := by show _ = _; rw [HF0.out, hfit]; rfl
    go_wp2_with fail
    go_ret
    exact ⟨ret_i (by rw [HF.out]; rfl), nx_trans HW.out.2.1 hb2⟩
  have HF1 : Hid (faultN ls ⟨kind, name, frm, ss, pl⟩ = (if many ls kind = true then 4 else if twc ss = true then 5 else if (findL ls kind name).isSome = true then 5 else 0)) := by
    show _ = _
    rw [HF0.out, hfit]; rfl
  obtain ⟨c0, c1, c2, c3, c4⟩ := HCE.out w2 hb2
  have HB2 := hideIt hb2
  clear hb2 HF0
  go_wp2_with fail
  refine (tooMany_any x0 kind name frm so sc m ao cap n ls w2 (HL.out.1.nx HB2.out) HL.out.2 hn1 hk3).mono ?_; rintro e w3 ⟨rfl, hb3⟩
  cases hmany : many ls kind
  · have HF2 : Hid (faultN ls ⟨kind, name, frm, ss, pl⟩ = (if twc ss = true then 5 else if (findL ls kind name).isSome = true then 5 else 0)) := by
      show _ = _
      rw [HF1.out, hmany]; rfl
    have HB3 : Hid (Below W1.heap.size W1 w3) := nx_trans HB2.out hb3
    obtain ⟨d0, d1, d2, d3, d4⟩ := HCE.out w3 HB3.out
    clear hb3 HF1 c0 c1 c2 c3 c4
    go_wp2_with fail
    refine (keyTwice_any x0 kind name frm so sc m ss w3 (HR.out.1.nx HB3.out) HR.out.2 hs1).mono ?_; rintro e w4 ⟨rfl, hb4⟩
    cases htw : twc ss
    · have HF3 : Hid (faultN ls ⟨kind, name, frm, ss, pl⟩ = (if (findL ls kind name).isSome = true then 5 else 0)) := by
        show _ = _
        rw [HF2.out, htw]; rfl
      have HB4 : Hid (Below W1.heap.size W1 w4) := nx_trans HB3.out hb4
      obtain ⟨f0, f1, f2, f3, f4⟩ := HCE.out w4 HB4.out
      clear hb4 HF2 d0 d1 d2 d3 d4
      go_wp2_with fail
      refine (find_any kind name ao cap n ls w4 (HL.out.1.nx HB4.out) HL.out.2 hn1).mono ?_
      rintro e w5 (⟨hno, rfl, hb5⟩ | ⟨l, so', sc', hso, rfl, hb5⟩)
      · have HF : Hid (faultN ls ⟨kind, name, frm, ss, pl⟩ = 0) := by show _ = _; rw [HF3.out, hno]; rfl
        clear hno
        go_wp2_with fail
        go_ret
        exact ⟨ret_i (by rw [HF.out]; rfl), nx_trans (nx_trans HW.out.2.1 HB4.out) (nx_trans hb5 (nx_alloc _ _))⟩
      · have HF : Hid (faultN ls ⟨kind, name, frm, ss, pl⟩ = 5) := by show _ = _; rw [HF3.out, hso]; rfl
        have hlk : l.kind = kind := findL_kind hso
        have hlb : ((l.kind : Int) != 0) = true := by rw [bne_iff_ne]; omega
        clear hso hlk
        go_wp2_with fail
        go_ret
        exact ⟨ret_i (by rw [HF.out]; rfl), nx_trans (nx_trans HW.out.2.1 HB4.out) (nx_trans hb5 (nx_alloc _ _))⟩
    · have HF : Hid (faultN ls ⟨kind, name, frm, ss, pl⟩ = 5) := by show _ = _; rw [HF2.out, htw]; rfl
      go_wp2_with fail
      go_ret
      exact ⟨ret_i (by rw [HF.out]; rfl), nx_trans (nx_trans HW.out.2.1 HB3.out) hb4⟩
  · have HF : Hid (faultN ls ⟨kind, name, frm, ss, pl⟩ = 4) := by show _ = _; rw [HF1.out, hmany]; rfl
    go_wp2_with fail
    go_ret
    exact ⟨ret_i (by rw [HF.out]; rfl), nx_trans (nx_trans HW.out.2.1 HB2.out) hb3⟩

/-- is the base there that a line names? -/
def baseB (ls : List (Ln × Value)) (frm : ByteArray) : Bool := frm.toList.isEmpty || (findL ls 2 frm).isSome

set_option maxHeartbeats 1000000 in
theorem baseThere_any (x0 x1 : Int) (s2 frm : ByteArray) (so : Option Addr) (m sc : Nat) (ao : Option Addr) (cap n : Nat) (ls : List (Ln × Value)) (w : World) (hl : LinesAt w (.slice ao n cap) ls) (hn : ls.length = n) (hn1 : n ≤ 1001) :
    Calls Tryd.prog 29 #[lnA' x0 x1 s2 frm so m sc, .slice ao n cap] w fun e w' => e = .returned (.bool (baseB ls frm)) ∧ Below w.heap.size w w' := by
  have HL : Hid (LinesAt (w.alloc (bLn x0 x1 s2 frm so m sc)) (.slice ao n cap) ls ∧ ls.length = n) := ⟨hl.nx (nx_alloc _ _), hn⟩
  clear hl hn
  cases he : frm.toList.isEmpty
  · go_enter Tryd.func29, Tryd.ntmps29
    go_wp2_with fail
    refine (find_base frm ao cap n ls _ HL.out.1 HL.out.2 hn1).mono ?_
    rintro e w5 (⟨hno, rfl, hb5⟩ | ⟨l, so', sc', hso, rfl, hb5⟩)
    · have HF : Hid (baseB ls frm = false) := by show _ = _; rw [baseB, he, hno]; rfl
      clear hno
      go_wp2_with fail
      go_ret
      exact ⟨ret_bool (by rw [HF.out]), nx_trans (nx_alloc _ _) (nx_trans hb5 (nx_alloc _ _))⟩
    · have HF : Hid (baseB ls frm = true) := by show _ = _; rw [baseB, he, hso]; rfl
      have hlk : l.kind = 2 := findL_kind hso
      have hlb : ((l.kind : Int) != 0) = true := by rw [bne_iff_ne]; omega
      clear hso hlk
      go_wp2_with fail
      go_ret
      exact ⟨ret_bool (by rw [HF.out]), nx_trans (nx_alloc _ _) (nx_trans hb5 (nx_alloc _ _))⟩
  · go_enter Tryd.func29, Tryd.ntmps29
    go_wp2_with fail
    go_ret
    exact ⟨ret_bool (by rw [baseB, he]; rfl), nx_alloc _ _⟩
end Co
end Go.Proofs.YtehehkahmpbjhaaDoor
