import Derived.Test.YtohbonfngeblkaaGreatMgD
namespace Go.Proofs.YtohbonfngeblkaaGreat
open Go.RowKit
namespace Co
abbrev bZero' : Obj := .cells #[.int .i64 0, .int .i64 0, .string ⟨#[]⟩, .string ⟨#[]⟩, .slice none 0 0] 136
def isL (kind : Nat) (name : ByteArray) (p : Ln × Value) : Bool := (p.1.kind == kind) && (p.1.name.toList == name.toList)
def findL (ls : List (Ln × Value)) (kind : Nat) (name : ByteArray) : Option (Ln × Value) := ls.find? (isL kind name)
theorem findL_hit {ls : List (Ln × Value)} {kind : Nat} {name : ByteArray} {k : Nat} {p : Ln × Value} (hd : ls.drop k = p :: ls.drop (k + 1)) (hs : findL (ls.drop k) kind name = findL ls kind name) (h : isL kind name p = true) : findL ls kind name = some p := by
  rw [← hs, hd, findL, List.find?_cons, h]
theorem findL_miss {ls : List (Ln × Value)} {kind : Nat} {name : ByteArray} {k : Nat} {p : Ln × Value} (hd : ls.drop k = p :: ls.drop (k + 1)) (hs : findL (ls.drop k) kind name = findL ls kind name) (h : isL kind name p = false) : findL (ls.drop (k + 1)) kind name = findL ls kind name := by
  rw [← hs, hd, findL, findL, List.find?_cons, h]
theorem findL_mem {ls : List (Ln × Value)} {kind : Nat} {name : ByteArray} {p : Ln × Value} (h : findL ls kind name = some p) : p ∈ ls := List.mem_of_find?_eq_some h
def Found (o : Option (Ln × Value)) (w w' : World) (e : Ending) : Prop :=
  (o = none ∧ e = .returned (lnA' 0 0 ⟨#[]⟩ ⟨#[]⟩ none 0 0) ∧ Below w.heap.size w w') ∨
  (∃ l so sc, o = some (l, .slice so l.sets.length sc) ∧ e = .returned (lnA' l.place l.kind l.name l.frm so l.sets.length sc) ∧ Below w.heap.size w w')
set_option maxHeartbeats 1000000 in
theorem find_any (kind : Nat) (name : ByteArray) (ao : Option Addr) (cap n : Nat) (ls : List (Ln × Value)) (w : World) (hl : LinesAt w (.slice ao n cap) ls) (hn : ls.length = n) (hn1 : n ≤ 1001) :
    Calls Tryz.prog 111 #[.slice ao n cap, .int .i64 (kind : Int), .string name] w fun e w' => Found (findL ls kind name) w w' e := by
  have HN : Hid (ls.length = n) := hn
  have HL : Hid (LinesAt (w.alloc bZero') (.slice ao n cap) ls) := hl.nx (nx_alloc _ _)
  clear hl hn
  go_enter Tryz.func111, Tryz.ntmps111
  go_wp2_with fail
  go_loop [7] (fun i => ∃ (k : Nat), k ≤ n ∧ i = .int .i64 k ∧ Hid (findL (ls.drop k) kind name = findL ls kind name)) (fun i => n - (intOf i).toNat)
  case atStart => exact ⟨0, Nat.zero_le _, rfl, rfl⟩
  case round =>
    obtain ⟨k, hk, rfl, HS⟩ := hrel
    by_cases hlt : k < n
    · obtain ⟨⟨l, sv⟩, hp⟩ : ∃ p, ls[k]? = some p := ⟨_, List.getElem?_eq_getElem (by rw [HN.out]; exact hlt)⟩
      obtain ⟨bl, off, so, sc, rfl, hbl, hsv, _, c0, c1, c2, c3, c4⟩ := HL.out.at hp
      subst hsv
      have HD : Hid (ls.drop k = (l, .slice so l.sets.length sc) :: ls.drop (k + 1)) := drop_at hp
      have hlti : (k : Int) < (n : Int) := by omega
      clear hp
      by_cases hkk : l.kind = kind
      · have hkb : ((l.kind : Int) == (kind : Int)) = true := by simp [hkk]
        have HK : Hid (l.kind = kind) := hkk
        clear hkk
        cases hnb : l.name.toList == name.toList
        · go_wp2_with fail
          go_round
          case rel => exact ⟨k + 1, by omega, by go_num, findL_miss HD.out HS.out (by simp [isL, hnb])⟩
          case measure => simp [intOf]; omega
        · have HF : Hid (findL ls kind name = some (l, .slice so l.sets.length sc)) := findL_hit HD.out HS.out (by simp [isL, hnb, HK.out])
          go_wp2_with fail
          refine bodyPost_ret (v := lnA' l.place l.kind l.name l.frm so l.sets.length sc) (by simp [results, Tryz.results111, go_sem]) rfl (.inr ⟨l, so, sc, HF.out, rfl, ?_⟩)
          exact nx_alloc _ _
      · have hkb : ((l.kind : Int) == (kind : Int)) = false := by simp; omega
        have HK : Hid (¬ l.kind = kind) := hkk
        clear hkk
        go_wp2_with fail
        go_round
        case rel => exact ⟨k + 1, by omega, by go_num, findL_miss HD.out HS.out (by simp [isL, HK.out])⟩
        case measure => simp [intOf]; omega
    · have HF : Hid (findL ls kind name = none) := by
        show _ = _
        rw [← HS.out, List.drop_of_length_le (by rw [HN.out]; omega)]; rfl
      go_wp2_with fail
      exact bodyPost_ret (v := lnA' 0 0 ⟨#[]⟩ ⟨#[]⟩ none 0 0) (by simp [results, Tryz.results111, go_sem]) rfl (.inl ⟨HF.out, rfl, nx_alloc _ _⟩)
theorem find_base (name : ByteArray) (ao : Option Addr) (cap n : Nat) (ls : List (Ln × Value)) (w : World) (hl : LinesAt w (.slice ao n cap) ls) (hn : ls.length = n) (hn1 : n ≤ 1001) :
    Calls Tryz.prog 111 #[.slice ao n cap, .int .i64 2, .string name] w fun e w' => Found (findL ls 2 name) w w' e := find_any 2 name ao cap n ls w hl hn hn1
def valL (ss : List (Nat × Nat)) (k : Nat) : Option Nat := (ss.find? fun p => (wordB p.1).toList == (wordB k).toList).map (·.2)
def valN (ss : List (Nat × Nat)) (k : Nat) : Int := match valL ss k with | some n => n | none => 0
theorem valL_hit {ss : List (Nat × Nat)} {key k a b : Nat} (hd : ss.drop k = (a, b) :: ss.drop (k + 1)) (hs : valL (ss.drop k) key = valL ss key) (h : ((wordB a).toList == (wordB key).toList) = true) : valL ss key = some b := by
  rw [← hs, hd, valL, List.find?_cons]; simp [h]
theorem valL_miss {ss : List (Nat × Nat)} {key k a b : Nat} (hd : ss.drop k = (a, b) :: ss.drop (k + 1)) (hs : valL (ss.drop k) key = valL ss key) (h : ((wordB a).toList == (wordB key).toList) = false) : valL (ss.drop (k + 1)) key = valL ss key := by
  rw [← hs, hd, valL, valL, List.find?_cons]; simp [h]
set_option maxHeartbeats 1000000 in
theorem numberOf_any (key : Nat) (x0 x1 : Int) (s2 s3 : ByteArray) (so : Option Addr) (sc n : Nat) (ss : List (Nat × Nat)) (w : World) (hr : RowAt w (.slice so n sc) n (flatS ss)) (hn : ss.length = n) (hn1 : n ≤ 1001) :
    Calls Tryz.prog 113 #[lnA' x0 x1 s2 s3 so n sc, .string (wordB key)] w fun e w' => e = .returned (.tuple #[.int .i64 (valN ss key), .bool (valL ss key).isSome]) ∧ Below w.heap.size w w' := by
  have HN : Hid (ss.length = n) := hn
  have HR : Hid (RowAt (w.alloc (bLn x0 x1 s2 s3 so n sc)) (.slice so n sc) n (flatS ss)) := hr.nx (nx_alloc _ _)
  clear hr hn
  go_enter Tryz.func113, Tryz.ntmps113
  go_wp2_with fail
  go_loop [6] (fun i => ∃ (k : Nat), k ≤ n ∧ i = .int .i64 k ∧ Hid (valL (ss.drop k) key = valL ss key)) (fun i => n - (intOf i).toNat)
  case atStart => exact ⟨0, Nat.zero_le _, rfl, rfl⟩
  case round =>
    obtain ⟨k, hk, rfl, HS⟩ := hrel
    by_cases hlt : k < n
    · obtain ⟨⟨a, b⟩, hp⟩ : ∃ p, ss[k]? = some p := ⟨_, List.getElem?_eq_getElem (by rw [HN.out]; exact hlt)⟩
      obtain ⟨bl, off, rfl, hbl, c0, c1⟩ := sets_at HR.out hp
      have HD : Hid (ss.drop k = (a, b) :: ss.drop (k + 1)) := drop_at hp
      have hlti : (k : Int) < (n : Int) := by omega
      clear hp
      cases hw : (wordB a).toList == (wordB key).toList
      · go_wp2_with fail
        go_round
        case rel => exact ⟨k + 1, by omega, by go_num, valL_miss HD.out HS.out hw⟩
        case measure => simp [intOf]; omega
      · have HV : Hid (valL ss key = some b) := valL_hit HD.out HS.out hw
        go_wp2_with fail
        go_ret2
        exact ⟨ret_ib (by simp [valN, HV.out]) (by simp [HV.out]), nx_alloc _ _⟩
    · have HV : Hid (valL ss key = none) := by
        show _ = _
        rw [← HS.out, List.drop_of_length_le (by rw [HN.out]; omega)]; rfl
      go_wp2_with fail
      go_ret2
      exact ⟨ret_ib (by simp [valN, HV.out]) (by simp [HV.out]), nx_alloc _ _⟩
end Co
end Go.Proofs.YtohbonfngeblkaaGreat
namespace Go.Proofs.YtohbonfngeblkaaGreat
open Go.RowKit
namespace Co
def faultN (ls : List (Ln × Value)) (l : Ln) : Nat :=
  if decide (ls.length = 0) != decide (l.kind = 1) then 2
  else if allFit l.sets = false then 3
  else if many ls l.kind = true then 4
  else if twc l.sets = true then 5
  else if (findL ls l.kind l.name).isSome = true then 5 else 0
theorem int_eq0 (n : Nat) : ((n : Int) == 0) = decide (n = 0) := by rw [Bool.eq_iff_iff]; simp
theorem int_eq1 (n : Nat) : ((n : Int) == 1) = decide (n = 1) := by rw [Bool.eq_iff_iff]; simp; omega
theorem findL_kind {ls : List (Ln × Value)} {kind : Nat} {name : ByteArray} {p : Ln × Value} (h : findL ls kind name = some p) : p.1.kind = kind := by
  have := List.find?_some h
  simp [isL] at this
  exact this.1
set_option maxHeartbeats 2000000 in
theorem faultOf_any (l : Ln) (x0 : Int) (so : Option Addr) (sc : Nat) (ao : Option Addr) (cap n : Nat) (ls : List (Ln × Value)) (w : World) (hl : LinesAt w (.slice ao n cap) ls) (hn : ls.length = n) (hn1 : n ≤ 1001)
    (hr : RowAt w (.slice so l.sets.length sc) l.sets.length (flatS l.sets)) (hs1 : l.sets.length ≤ 1001) (hk1 : 1 ≤ l.kind) (hk3 : l.kind ≤ 3) :
    Calls Tryz.prog 110 #[lnA' x0 l.kind l.name l.frm so l.sets.length sc, .slice ao n cap] w fun e w' => e = .returned (.int .i64 (faultN ls l)) ∧ Below w.heap.size w w' := by
  obtain ⟨kind, name, frm, ss, pl⟩ := l
  simp only at hr hs1 hk1 hk3 ⊢
  obtain ⟨m, hm⟩ : ∃ m, ss.length = m := ⟨_, rfl⟩
  rw [hm] at hr hs1 ⊢
  obtain ⟨W1, hW1⟩ : ∃ W1, W1 = w.alloc (bLn x0 kind name frm so m sc) := ⟨_, rfl⟩
  have hb1 : Below w.heap.size w W1 := by rw [hW1]; exact nx_alloc _ _
  have HW : Hid (W1 = w.alloc (bLn x0 kind name frm so m sc) ∧ Below w.heap.size w W1 ∧ w.heap.size < W1.heap.size ∧ W1.heap[w.heap.size]? = some (.cells #[.int .i64 x0, .int .i64 (kind : Int), .string name, .string frm, .slice so m sc] 136 (0, 0))) :=
    ⟨hW1, hb1, by rw [hW1]; simp, by rw [hW1]; show (w.heap.push _)[w.heap.size]? = _; simp⟩
  have HL : Hid (LinesAt W1 (.slice ao n cap) ls ∧ ls.length = n) := ⟨hl.nx hb1, hn⟩
  have HR : Hid (RowAt W1 (.slice so m sc) m (flatS ss) ∧ ss.length = m) := ⟨hr.nx hb1, hm⟩
  have HFN : Hid (faultN ls ⟨kind, name, frm, ss, pl⟩ = (if decide (n = 0) != decide (kind = 1) then 2 else if allFit ss = false then 3 else if many ls kind = true then 4 else if twc ss = true then 5 else if (findL ls kind name).isSome = true then 5 else 0)) := by
    show _ = _
    rw [faultN, hn]
  clear hl hn hr hm hW1 hb1
  have hcells : ∀ wx, Below W1.heap.size W1 wx → wx.cell? ⟨w.heap.size, 0, none⟩ = some (.int .i64 x0) ∧ wx.cell? ⟨w.heap.size, 1, none⟩ = some (.int .i64 (kind : Int)) ∧ wx.cell? ⟨w.heap.size, 2, none⟩ = some (.string name) ∧ wx.cell? ⟨w.heap.size, 3, none⟩ = some (.string frm) ∧ wx.cell? ⟨w.heap.size, 4, none⟩ = some (.slice so m sc) := by
    intro wx hb
    have h' : wx.heap[w.heap.size]? = some (.cells #[.int .i64 x0, .int .i64 (kind : Int), .string name, .string frm, .slice so m sc] 136 (0, 0)) := (hb.block _ HW.out.2.2.1).trans HW.out.2.2.2
    refine ⟨?_, ?_, ?_, ?_, ?_⟩ <;> simp [World.cell?, h']
  have HCE := hideIt hcells
  clear hcells
  by_cases hfirst : (decide (n = 0) != decide (kind = 1)) = true
  · have HF : Hid (faultN ls ⟨kind, name, frm, ss, pl⟩ = 2) := by show _ = _; rw [HFN.out, if_pos hfirst]
    obtain ⟨q, hq1, hq2⟩ : ∃ q, ((n : Int) == 0) = q ∧ ((kind : Int) == 1) = !q := ⟨decide (n = 0), int_eq0 n, by
      rw [int_eq1]
      revert hfirst
      cases decide (n = 0) <;> cases decide (kind = 1) <;> simp⟩
    clear hfirst
    go_enter Tryz.func110, Tryz.ntmps110
    go_wp2_with fail
    go_ret
    exact ⟨ret_i (by rw [HF.out]; rfl), nx_alloc _ _⟩
  obtain ⟨q, hq1, hq2⟩ : ∃ q, ((n : Int) == 0) = q ∧ ((kind : Int) == 1) = q := ⟨decide (n = 0), int_eq0 n, by
    rw [int_eq1]
    revert hfirst
    cases decide (n = 0) <;> cases decide (kind = 1) <;> simp⟩
  have HF0 : Hid (faultN ls ⟨kind, name, frm, ss, pl⟩ = (if allFit ss = false then 3 else if many ls kind = true then 4 else if twc ss = true then 5 else if (findL ls kind name).isSome = true then 5 else 0)) := by
    show _ = _
    rw [HFN.out, if_neg hfirst]
  clear hfirst HFN
  go_enter Tryz.func110, Tryz.ntmps110
  go_wp2_with fail
  rw [← HW.out.1]
  refine (numbersFit_any x0 kind name frm so sc m ss W1 HR.out.1 HR.out.2 hs1).mono ?_; rintro e w2 ⟨rfl, hb2⟩
  cases hfit : allFit ss
  · have HF : Hid (faultN ls ⟨kind, name, frm, ss, pl⟩ = 3) := by show _ = _; rw [HF0.out, hfit]; rfl
    go_wp2_with fail
    go_ret
    exact ⟨ret_i (by rw [HF.out]; rfl), nx_trans HW.out.2.1 hb2⟩
  have HF1 : Hid (faultN ls ⟨kind, name, frm, ss, pl⟩ = (if many ls kind = true then 4 else if twc ss = true then 5 else if (findL ls kind name).isSome = true then 5 else 0)) := by
    show _ = _
    rw [HF0.out, hfit]; rfl
  obtain ⟨c0, c1, c2, c3, c4⟩ := HCE.out w2 hb2
  have HB2 := hideIt hb2
  clear hb2 HF0
  go_wp2_with fail
  refine (tooMany_any x0 kind name frm so sc m ao cap n ls w2 (HL.out.1.nx HB2.out) HL.out.2 hn1 hk3).mono ?_; rintro e w3 ⟨rfl, hb3⟩
  cases hmany : many ls kind
  · have HF2 : Hid (faultN ls ⟨kind, name, frm, ss, pl⟩ = (if twc ss = true then 5 else if (findL ls kind name).isSome = true then 5 else 0)) := by
      show _ = _
      rw [HF1.out, hmany]; rfl
    have HB3 : Hid (Below W1.heap.size W1 w3) := nx_trans HB2.out hb3
    obtain ⟨d0, d1, d2, d3, d4⟩ := HCE.out w3 HB3.out
    clear hb3 HF1 c0 c1 c2 c3 c4
    go_wp2_with fail
    refine (keyTwice_any x0 kind name frm so sc m ss w3 (HR.out.1.nx HB3.out) HR.out.2 hs1).mono ?_; rintro e w4 ⟨rfl, hb4⟩
    cases htw : twc ss
    · have HF3 : Hid (faultN ls ⟨kind, name, frm, ss, pl⟩ = (if (findL ls kind name).isSome = true then 5 else 0)) := by
        show _ = _
        rw [HF2.out, htw]; rfl
      have HB4 : Hid (Below W1.heap.size W1 w4) := nx_trans HB3.out hb4
      obtain ⟨f0, f1, f2, f3, f4⟩ := HCE.out w4 HB4.out
      clear hb4 HF2 d0 d1 d2 d3 d4
      go_wp2_with fail
      refine (find_any kind name ao cap n ls w4 (HL.out.1.nx HB4.out) HL.out.2 hn1).mono ?_
      rintro e w5 (⟨hno, rfl, hb5⟩ | ⟨l, so', sc', hso, rfl, hb5⟩)
      · have HF : Hid (faultN ls ⟨kind, name, frm, ss, pl⟩ = 0) := by show _ = _; rw [HF3.out, hno]; rfl
        clear hno
        go_wp2_with fail
        go_ret
        exact ⟨ret_i (by rw [HF.out]; rfl), nx_trans (nx_trans HW.out.2.1 HB4.out) (nx_trans hb5 (nx_alloc _ _))⟩
      · have HF : Hid (faultN ls ⟨kind, name, frm, ss, pl⟩ = 5) := by show _ = _; rw [HF3.out, hso]; rfl
        have hlk : l.kind = kind := findL_kind hso
        have hlb : ((l.kind : Int) != 0) = true := by rw [bne_iff_ne]; omega
        clear hso hlk
        go_wp2_with fail
        go_ret
        exact ⟨ret_i (by rw [HF.out]; rfl), nx_trans (nx_trans HW.out.2.1 HB4.out) (nx_trans hb5 (nx_alloc _ _))⟩
    · have HF : Hid (faultN ls ⟨kind, name, frm, ss, pl⟩ = 5) := by show _ = _; rw [HF2.out, htw]; rfl
      go_wp2_with fail
      go_ret
      exact ⟨ret_i (by rw [HF.out]; rfl), nx_trans (nx_trans HW.out.2.1 HB3.out) hb4⟩
  · have HF : Hid (faultN ls ⟨kind, name, frm, ss, pl⟩ = 4) := by show _ = _; rw [HF1.out, hmany]; rfl
    go_wp2_with fail
    go_ret
    exact ⟨ret_i (by rw [HF.out]; rfl), nx_trans (nx_trans HW.out.2.1 HB2.out) hb3⟩
def baseB (ls : List (Ln × Value)) (frm : ByteArray) : Bool := frm.toList.isEmpty || (findL ls 2 frm).isSome
set_option maxHeartbeats 1000000 in
theorem baseThere_any (x0 x1 : Int) (s2 frm : ByteArray) (so : Option Addr) (m sc : Nat) (ao : Option Addr) (cap n : Nat) (ls : List (Ln × Value)) (w : World) (hl : LinesAt w (.slice ao n cap) ls) (hn : ls.length = n) (hn1 : n ≤ 1001) :
    Calls Tryz.prog 93 #[lnA' x0 x1 s2 frm so m sc, .slice ao n cap] w fun e w' => e = .returned (.bool (baseB ls frm)) ∧ Below w.heap.size w w' := by
  have HL : Hid (LinesAt (w.alloc (bLn x0 x1 s2 frm so m sc)) (.slice ao n cap) ls ∧ ls.length = n) := ⟨hl.nx (nx_alloc _ _), hn⟩
  clear hl hn
  cases he : frm.toList.isEmpty
  · go_enter Tryz.func93, Tryz.ntmps93
    go_wp2_with fail
    refine (find_base frm ao cap n ls _ HL.out.1 HL.out.2 hn1).mono ?_
    rintro e w5 (⟨hno, rfl, hb5⟩ | ⟨l, so', sc', hso, rfl, hb5⟩)
    · have HF : Hid (baseB ls frm = false) := by show _ = _; rw [baseB, he, hno]; rfl
      clear hno
      go_wp2_with fail
      go_ret
      exact ⟨ret_bool (by rw [HF.out]), nx_trans (nx_alloc _ _) (nx_trans hb5 (nx_alloc _ _))⟩
    · have HF : Hid (baseB ls frm = true) := by show _ = _; rw [baseB, he, hso]; rfl
      have hlk : l.kind = 2 := findL_kind hso
      have hlb : ((l.kind : Int) != 0) = true := by rw [bne_iff_ne]; omega
      clear hso hlk
      go_wp2_with fail
      go_ret
      exact ⟨ret_bool (by rw [HF.out]), nx_trans (nx_alloc _ _) (nx_trans hb5 (nx_alloc _ _))⟩
  · go_enter Tryz.func93, Tryz.ntmps93
    go_wp2_with fail
    go_ret
    exact ⟨ret_bool (by rw [baseB, he]; rfl), nx_alloc _ _⟩
end Co
end Go.Proofs.YtohbonfngeblkaaGreat
