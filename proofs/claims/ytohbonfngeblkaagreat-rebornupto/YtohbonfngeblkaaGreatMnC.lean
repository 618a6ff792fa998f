import Derived.Test.YtohbonfngeblkaaGreatMnB
namespace Go.Proofs.YtohbonfngeblkaaGreat
open Go.RowKit
namespace Co
abbrev bZero' : Obj := .cells #[.int .i64 0, .int .i64 0, .string ⟨#[]⟩, .string ⟨#[]⟩, .slice none 0 0] 136
def isL (kind : Nat) (name : ByteArray) (p : Ln × Value) : Bool := (p.1.kind == kind) && (p.1.name.toList == name.toList)
def findL (ls : List (Ln × Value)) (kind : Nat) (name : ByteArray) : Option (Ln × Value) := ls.find? (isL kind name)
theorem findL_hit {ls : List (Ln × Value)} {kind : Nat} {name : ByteArray} {k : Nat} {p : Ln × Value} (hd : ls.drop k = p :: ls.drop (k + 1)) (hs : findL (ls.drop k) kind name = findL ls kind name) (h : isL kind name p = true) : findL ls kind name = some p := by
  rw [← hs, hd, findL, List.find?_cons, h]
theorem findL_miss {ls : List (Ln × Value)} {kind : Nat} {name : ByteArray} {k : Nat} {p : Ln × Value} (hd : ls.drop k = p :: ls.drop (k + 1)) (hs : findL (ls.drop k) kind name = findL ls kind name) (h : isL kind name p = false) : findL (ls.drop (k + 1)) kind name = findL ls kind name := by
  rw [← hs, hd, findL, findL, List.find?_cons, h]
theorem findL_mem {ls : List (Ln × Value)} {kind : Nat} {name : ByteArray} {p : Ln × Value} (h : findL ls kind name = some p) : p ∈ ls := List.mem_of_find?_eq_some h
def Found (o : Option (Ln × Value)) (w w' : World) (e : Ending) : Prop :=
  (o = none ∧ e = .returned (lnA' 0 0 ⟨#[]⟩ ⟨#[]⟩ none 0 0) ∧ Below w.heap.size w w') ∨
  (∃ l so sc, o = some (l, .slice so l.sets.length sc) ∧ e = .returned (lnA' l.place l.kind l.name l.frm so l.sets.length sc) ∧ Below w.heap.size w w')
set_option maxHeartbeats 1000000 in
theorem find_any (kind : Nat) (name : ByteArray) (ao : Option Addr) (cap n : Nat) (ls : List (Ln × Value)) (w : World) (hl : LinesAt w (.slice ao n cap) ls) (hn : ls.length = n) (hn1 : n ≤ 1001) :
    Calls Tryz.prog 111 #[.slice ao n cap, .int .i64 (kind : Int), .string name] w fun e w' => Found (findL ls kind name) w w' e := by
  have HN : Hid (ls.length = n) := hn
  have HL : Hid (LinesAt (w.alloc bZero') (.slice ao n cap) ls) := hl.nx (nx_alloc _ _)
  clear hl hn
  go_enter Tryz.func111, Tryz.ntmps111
  go_wp2_with fail
  go_loop [7] (fun i => ∃ (k : Nat), k ≤ n ∧ i = .int .i64 k ∧ Hid (findL (ls.drop k) kind name = findL ls kind name)) (fun i => n - (intOf i).toNat)
  case atStart => exact ⟨0, Nat.zero_le _, rfl, rfl⟩
  case round =>
    obtain ⟨k, hk, rfl, HS⟩ := hrel
    by_cases hlt : k < n
    · obtain ⟨⟨l, sv⟩, hp⟩ : ∃ p, ls[k]? = some p := ⟨_, List.getElem?_eq_getElem (by rw [HN.out]; exact hlt)⟩
      obtain ⟨bl, off, so, sc, rfl, hbl, hsv, _, c0, c1, c2, c3, c4⟩ := HL.out.at hp
      subst hsv
      have HD : Hid (ls.drop k = (l, .slice so l.sets.length sc) :: ls.drop (k + 1)) := drop_at hp
      have hlti : (k : Int) < (n : Int) := by omega
      clear hp
      by_cases hkk : l.kind = kind
      · have hkb : ((l.kind : Int) == (kind : Int)) = true := by simp [hkk]
        have HK : Hid (l.kind = kind) := hkk
        clear hkk
        cases hnb : l.name.toList == name.toList
        · go_wp2_with fail
          go_round
          case rel => exact ⟨k + 1, by omega, by go_num, findL_miss HD.out HS.out (by simp [isL, hnb])⟩
          case measure => simp [intOf]; omega
        · have HF : Hid (findL ls kind name = some (l, .slice so l.sets.length sc)) := findL_hit HD.out HS.out (by simp [isL, hnb, HK.out])
          go_wp2_with fail
          refine bodyPost_ret (v := lnA' l.place l.kind l.name l.frm so l.sets.length sc) (by simp [results, Tryz.results111, go_sem]) rfl (.inr ⟨l, so, sc, HF.out, rfl, ?_⟩)
          exact nx_alloc _ _
      · have hkb : ((l.kind : Int) == (kind : Int)) = false := by simp; omega
        have HK : Hid (¬ l.kind = kind) := hkk
        clear hkk
        go_wp2_with fail
        go_round
        case rel => exact ⟨k + 1, by omega, by go_num, findL_miss HD.out HS.out (by simp [isL, HK.out])⟩
        case measure => simp [intOf]; omega
    · have HF : Hid (findL ls kind name = none) := by
        show _ = _
        rw [← HS.out, List.drop_of_length_le (by rw [HN.out]; omega)]; rfl
      go_wp2_with fail
      exact bodyPost_ret (v := lnA' 0 0 ⟨#[]⟩ ⟨#[]⟩ none 0 0) (by simp [results, Tryz.results111, go_sem]) rfl (.inl ⟨HF.out, rfl, nx_alloc _ _⟩)
theorem find_base (name : ByteArray) (ao : Option Addr) (cap n : Nat) (ls : List (Ln × Value)) (w : World) (hl : LinesAt w (.slice ao n cap) ls) (hn : ls.length = n) (hn1 : n ≤ 1001) :
    Calls Tryz.prog 111 #[.slice ao n cap, .int .i64 2, .string name] w fun e w' => Found (findL ls 2 name) w w' e := find_any 2 name ao cap n ls w hl hn hn1
def valL (ss : List (Nat × Nat)) (k : Nat) : Option Nat := (ss.find? fun p => (wordB p.1).toList == (wordB k).toList).map (·.2)
def valN (ss : List (Nat × Nat)) (k : Nat) : Int := match valL ss k with | some n => n | none => 0
theorem valL_hit {ss : List (Nat × Nat)} {key k a b : Nat} (hd : ss.drop k = (a, b) :: ss.drop (k + 1)) (hs : valL (ss.drop k) key = valL ss key) (h : ((wordB a).toList == (wordB key).toList) = true) : valL ss key = some b := by
  rw [← hs, hd, valL, List.find?_cons]; simp [h]
theorem valL_miss {ss : List (Nat × Nat)} {key k a b : Nat} (hd : ss.drop k = (a, b) :: ss.drop (k + 1)) (hs : valL (ss.drop k) key = valL ss key) (h : ((wordB a).toList == (wordB key).toList) = false) : valL (ss.drop (k + 1)) key = valL ss key := by
  rw [← hs, hd, valL, valL, List.find?_cons]; simp [h]
set_option maxHeartbeats 1000000 in
theorem numberOf_any (key : Nat) (x0 x1 : Int) (s2 s3 : ByteArray) (so : Option Addr) (sc n : Nat) (ss : List (Nat × Nat)) (w : World) (hr : RowAt w (.slice so n sc) n (flatS ss)) (hn : ss.length = n) (hn1 : n ≤ 1001) :
    Calls Tryz.prog 113 #[lnA' x0 x1 s2 s3 so n sc, .string (wordB key)] w fun e w' => e = .returned (.tuple #[.int .i64 (valN ss key), .bool (valL ss key).isSome]) ∧ Below w.heap.size w w' := by
  have HN : Hid (ss.length = n) := hn
  have HR : Hid (RowAt (w.alloc (bLn x0 x1 s2 s3 so n sc)) (.slice so n sc) n (flatS ss)) := hr.nx (nx_alloc _ _)
  clear hr hn
  go_enter Tryz.func113, Tryz.ntmps113
  go_wp2_with fail
  go_loop [6] (fun i => ∃ (k : Nat), k ≤ n ∧ i = .int .i64 k ∧ Hid (valL (ss.drop k) key = valL ss key)) (fun i => n - (intOf i).toNat)
  case atStart => exact ⟨0, Nat.zero_le _, rfl, rfl⟩
  case round =>
    obtain ⟨k, hk, rfl, HS⟩ := hrel
    by_cases hlt : k < n
    · obtain ⟨⟨a, b⟩, hp⟩ : ∃ p, ss[k]? = some p := ⟨_, List.getElem?_eq_getElem (by rw [HN.out]; exact hlt)⟩
      obtain ⟨bl, off, rfl, hbl, c0, c1⟩ := sets_at HR.out hp
      have HD : Hid (ss.drop k = (a, b) :: ss.drop (k + 1)) := drop_at hp
      have hlti : (k : Int) < (n : Int) := by omega
      clear hp
      cases hw : (wordB a).toList == (wordB key).toList
      · go_wp2_with fail
        go_round
        case rel => exact ⟨k + 1, by omega, by go_num, valL_miss HD.out HS.out hw⟩
        case measure => simp [intOf]; omega
      · have HV : Hid (valL ss key = some b) := valL_hit HD.out HS.out hw
        go_wp2_with fail
        go_ret2
        exact ⟨ret_ib (by simp [valN, HV.out]) (by simp [HV.out]), nx_alloc _ _⟩
    · have HV : Hid (valL ss key = none) := by
        show _ = _
        rw [← HS.out, List.drop_of_length_le (by rw [HN.out]; omega)]; rfl
      go_wp2_with fail
      go_ret2
      exact ⟨ret_ib (by simp [valN, HV.out]) (by simp [HV.out]), nx_alloc _ _⟩
end Co
end Go.Proofs.YtohbonfngeblkaaGreat
namespace Go.Proofs.YtohbonfngeblkaaGreat
open Go.RowKit
namespace Co
def faultN (ls : List (Ln × Value)) (l : Ln) : Nat :=
  if decide (ls.length = 0) != decide (l.kind = 1) then 2
  else if allFit l.sets = false then 3
  else if many ls l.kind = true then 4
  else if twc l.sets = true then 5
  else if (findL ls l.kind l.name).isSome = true then 5 else 0
theorem int_eq0 (n : Nat) : ((n : Int) == 0) = decide (n = 0) := by rw [Bool.eq_iff_iff]; simp
theorem int_eq1 (n : Nat) : ((n : Int) == 1) = decide (n = 1) := by rw [Bool.eq_iff_iff]; simp; omega
theorem findL_kind {ls : List (Ln × Value)} {kind : Nat} {name : ByteArray} {p : Ln × Value} (h : findL ls kind name = some p) : p.1.kind = kind := by
  have := List.find?_some h
  simp [isL] at this
  exact this.1
set_option maxHeartbeats 2000000 in
theorem faultOf_any (l : Ln) (x0 : Int) (so : Option Addr) (sc : Nat) (ao : Option Addr) (cap n : Nat) (ls : List (Ln × Value)) (w : World) (hl : LinesAt w (.slice ao n cap) ls) (hn : ls.length = n) (hn1 : n ≤ 1001)
    (hr : RowAt w (.slice so l.sets.length sc) l.sets.length (flatS l.sets)) (hs1 : l.sets.length ≤ 1001) (hk1 : 1 ≤ l.kind) (hk3 : l.kind ≤ 3) :
    Calls Tryz.prog 110 #[lnA' x0 l.kind l.name l.frm so l.sets.length sc, .slice ao n cap] w fun e w' => e = .returned (.int .i64 (faultN ls l)) ∧ Below w.heap.size w w' := by
  obtain ⟨kind, name, frm, ss, pl⟩ := l
  simp only at hr hs1 hk1 hk3 ⊢
  obtain ⟨m, hm⟩ : ∃ m, ss.length = m := ⟨_, rfl⟩
  rw [hm] at hr hs1 ⊢
  obtain ⟨W1, hW1⟩ : ∃ W1, W1 = w.alloc (bLn x0 kind name frm so m sc) := ⟨_, rfl⟩
  have hb1 : Below w.heap.size w W1 := by rw [hW1]; exact nx_alloc _ _
  have HW : Hid (W1 = w.alloc (bLn x0 kind name frm so m sc) ∧ Below w.heap.size w W1 ∧ w.heap.size < W1.heap.size ∧ W1.heap[w.heap.size]? = some (.cells #[.int .i64 x0, .int .i64 (kind : Int), .string name, .string frm, .slice so m sc] 136 (0, 0))) :=
    ⟨hW1, hb1, by rw [hW1]; simp, by rw [hW1]; show (w.heap.push _)[w.heap.size]? = _; simp⟩
  have HL : Hid (LinesAt W1 (.slice ao n cap) ls ∧ ls.length = n) := ⟨hl.nx hb1, hn⟩
  have HR : Hid (RowAt W1 (.slice so m sc) m (flatS ss) ∧ ss.length = m) := ⟨hr.nx hb1, hm⟩
  have HFN : Hid (faultN ls ⟨kind, name, frm, ss, pl⟩ = (if decide (n = 0) != decide (kind = 1) then 2 else if allFit ss = false then 3 else if many ls kind = true then 4 else if twc ss = true then 5 else if (findL ls kind name).isSome = true then 5 else 0)) := by
    show _ = _
    rw [faultN, hn]
  clear hl hn hr hm hW1 hb1
  have hcells : ∀ wx, Below W1.heap.size W1 wx → wx.cell? ⟨w.heap.size, 0, none⟩ = some (.int .i64 x0) ∧ wx.cell? ⟨w.heap.size, 1, none⟩ = some (.int .i64 (kind : Int)) ∧ wx.cell? ⟨w.heap.size, 2, none⟩ = some (.string name) ∧ wx.cell? ⟨w.heap.size, 3, none⟩ = some (.string frm) ∧ wx.cell? ⟨w.heap.size, 4, none⟩ = some (.slice so m sc) := by
    intro wx hb
    have h' : wx.heap[w.heap.size]? = some (.cells #[.int .i64 x0, .int .i64 (kind : Int), .string name, .string frm, .slice so m sc] 136 (0, 0)) := (hb.block _ HW.out.2.2.1).trans HW.out.2.2.2
    refine ⟨?_, ?_, ?_, ?_, ?_⟩ <;> simp [World.cell?, h']
  have HCE := hideIt hcells
  clear hcells
  by_cases hfirst : (decide (n = 0) != decide (kind = 1)) = true
  · have HF : Hid (faultN ls ⟨kind, name, frm, ss, pl⟩ = 2) := by show _ = _; rw [HFN.out, if_pos hfirst]
    obtain ⟨q, hq1, hq2⟩ : ∃ q, ((n : Int) == 0) = q ∧ ((kind : Int) == 1) = !q := ⟨decide (n = 0), int_eq0 n, by
      rw [int_eq1]
      revert hfirst
      cases decide (n = 0) <;> cases decide (kind = 1) <;> simp⟩
    clear hfirst
    go_enter Tryz.func110, Tryz.ntmps110
    go_wp2_with fail
    go_ret
    exact ⟨ret_i (by rw [HF.out]; rfl), nx_alloc _ _⟩
  obtain ⟨q, hq1, hq2⟩ : ∃ q, ((n : Int) == 0) = q ∧ ((kind : Int) == 1) = q := ⟨decide (n = 0), int_eq0 n, by
    rw [int_eq1]
    revert hfirst
    cases decide (n = 0) <;> cases decide (kind = 1) <;> simp⟩
  have HF0 : Hid (faultN ls ⟨kind, name, frm, ss, pl⟩ = (if allFit ss = false then 3 else if many ls kind = true then 4 else if twc ss = true then 5 else if (findL ls kind name).isSome = true then 5 else 0)) := by
    show _ = _
    rw [HFN.out, if_neg hfirst]
  clear hfirst HFN
  go_enter Tryz.func110, Tryz.ntmps110
  go_wp2_with fail
  rw [← HW.out.1]
  refine (numbersFit_any x0 kind name frm so sc m ss W1 HR.out.1 HR.out.2 hs1).mono ?_; rintro e w2 ⟨rfl, hb2⟩
  cases hfit : allFit ss
  · have HF : Hid (faultN ls ⟨kind, name, frm, ss, pl⟩ = 3) := by show _ = _; rw [HF0.out, hfit]; rfl
    go_wp2_with fail
    go_ret
    exact ⟨ret_i (by rw [HF.out]; rfl), nx_trans HW.out.2.1 hb2⟩
  have HF1 : Hid (faultN ls ⟨kind, name, frm, ss, pl⟩ = (if many ls kind = true then 4 else if twc ss = true then 5 else if (findL ls kind name).isSome = true then 5 else 0)) := by
    show _ = _
    rw [HF0.out, hfit]; rfl
  obtain ⟨c0, c1, c2, c3, c4⟩ := HCE.out w2 hb2
  have HB2 := hideIt hb2
  clear hb2 HF0
  go_wp2_with fail
  refine (tooMany_any x0 kind name frm so sc m ao cap n ls w2 (HL.out.1.nx HB2.out) HL.out.2 hn1 hk3).mono ?_; rintro e w3 ⟨rfl, hb3⟩
  cases hmany : many ls kind
  · have HF2 : Hid (faultN ls ⟨kind, name, frm, ss, pl⟩ = (if twc ss = true then 5 else if (findL ls kind name).isSome = true then 5 else 0)) := by
      show _ = _
      rw [HF1.out, hmany]; rfl
    have HB3 : Hid (Below W1.heap.size W1 w3) := nx_trans HB2.out hb3
    obtain ⟨d0, d1, d2, d3, d4⟩ := HCE.out w3 HB3.out
    clear hb3 HF1 c0 c1 c2 c3 c4
    go_wp2_with fail
    refine (keyTwice_any x0 kind name frm so sc m ss w3 (HR.out.1.nx HB3.out) HR.out.2 hs1).mono ?_; rintro e w4 ⟨rfl, hb4⟩
    cases htw : twc ss
    · have HF3 : Hid (faultN ls ⟨kind, name, frm, ss, pl⟩ = (if (findL ls kind name).isSome = true then 5 else 0)) := by
        show _ = _
        rw [HF2.out, htw]; rfl
      have HB4 : Hid (Below W1.heap.size W1 w4) := nx_trans HB3.out hb4
      obtain ⟨f0, f1, f2, f3, f4⟩ := HCE.out w4 HB4.out
      clear hb4 HF2 d0 d1 d2 d3 d4
      go_wp2_with fail
      refine (find_any kind name ao cap n ls w4 (HL.out.1.nx HB4.out) HL.out.2 hn1).mono ?_
      rintro e w5 (⟨hno, rfl, hb5⟩ | ⟨l, so', sc', hso, rfl, hb5⟩)
      · have HF : Hid (faultN ls ⟨kind, name, frm, ss, pl⟩ = 0) := by show _ = _; rw [HF3.out, hno]; rfl
        clear hno
        go_wp2_with fail
        go_ret
        exact ⟨ret_i (by rw [HF.out]; rfl), nx_trans (nx_trans HW.out.2.1 HB4.out) (nx_trans hb5 (nx_alloc _ _))⟩
      · have HF : Hid (faultN ls ⟨kind, name, frm, ss, pl⟩ = 5) := by show _ = _; rw [HF3.out, hso]; rfl
        have hlk : l.kind = kind := findL_kind hso
        have hlb : ((l.kind : Int) != 0) = true := by rw [bne_iff_ne]; omega
        clear hso hlk
        go_wp2_with fail
        go_ret
        exact ⟨ret_i (by rw [HF.out]; rfl), nx_trans (nx_trans HW.out.2.1 HB4.out) (nx_trans hb5 (nx_alloc _ _))⟩
    · have HF : Hid (faultN ls ⟨kind, name, frm, ss, pl⟩ = 5) := by show _ = _; rw [HF2.out, htw]; rfl
      go_wp2_with fail
      go_ret
      exact ⟨ret_i (by rw [HF.out]; rfl), nx_trans (nx_trans HW.out.2.1 HB3.out) hb4⟩
  · have HF : Hid (faultN ls ⟨kind, name, frm, ss, pl⟩ = 4) := by show _ = _; rw [HF1.out, hmany]; rfl
    go_wp2_with fail
    go_ret
    exact ⟨ret_i (by rw [HF.out]; rfl), nx_trans (nx_trans HW.out.2.1 HB2.out) hb3⟩
def baseB (ls : List (Ln × Value)) (frm : ByteArray) : Bool := frm.toList.isEmpty || (findL ls 2 frm).isSome
set_option maxHeartbeats 1000000 in
theorem baseThere_any (x0 x1 : Int) (s2 frm : ByteArray) (so : Option Addr) (m sc : Nat) (ao : Option Addr) (cap n : Nat) (ls : List (Ln × Value)) (w : World) (hl : LinesAt w (.slice ao n cap) ls) (hn : ls.length = n) (hn1 : n ≤ 1001) :
    Calls Tryz.prog 93 #[lnA' x0 x1 s2 frm so m sc, .slice ao n cap] w fun e w' => e = .returned (.bool (baseB ls frm)) ∧ Below w.heap.size w w' := by
  have HL : Hid (LinesAt (w.alloc (bLn x0 x1 s2 frm so m sc)) (.slice ao n cap) ls ∧ ls.length = n) := ⟨hl.nx (nx_alloc _ _), hn⟩
  clear hl hn
  cases he : frm.toList.isEmpty
  · go_enter Tryz.func93, Tryz.ntmps93
    go_wp2_with fail
    refine (find_base frm ao cap n ls _ HL.out.1 HL.out.2 hn1).mono ?_
    rintro e w5 (⟨hno, rfl, hb5⟩ | ⟨l, so', sc', hso, rfl, hb5⟩)
    · have HF : Hid (baseB ls frm = false) := by show _ = _; rw [baseB, he, hno]; rfl
      clear hno
      go_wp2_with fail
      go_ret
      exact ⟨ret_bool (by rw [HF.out]), nx_trans (nx_alloc _ _) (nx_trans hb5 (nx_alloc _ _))⟩
    · have HF : Hid (baseB ls frm = true) := by show _ = _; rw [baseB, he, hso]; rfl
      have hlk : l.kind = 2 := findL_kind hso
      have hlb : ((l.kind : Int) != 0) = true := by rw [bne_iff_ne]; omega
      clear hso hlk
      go_wp2_with fail
      go_ret
      exact ⟨ret_bool (by rw [HF.out]), nx_trans (nx_alloc _ _) (nx_trans hb5 (nx_alloc _ _))⟩
  · go_enter Tryz.func93, Tryz.ntmps93
    go_wp2_with fail
    go_ret
    exact ⟨ret_bool (by rw [baseB, he]; rfl), nx_alloc _ _⟩
end Co
end Go.Proofs.YtohbonfngeblkaaGreat
namespace Go.Proofs.YtohbonfngeblkaaGreat
open Go.RowKit
namespace Co
def chn (ls : List (Ln × Value)) : Nat → ByteArray → List (Ln × Value)
  | 0, _ => []
  | f + 1, nm => match findL ls 2 nm with
    | none => []
    | some p => p :: chn ls f p.1.frm
theorem chn_none {ls : List (Ln × Value)} {f : Nat} {nm : ByteArray} (h : findL ls 2 nm = none) : chn ls f nm = [] := by
  cases f with
  | zero => rfl
  | succ f => rw [chn, h]
theorem chn_some {ls : List (Ln × Value)} {f : Nat} {nm : ByteArray} {p : Ln × Value} (h : findL ls 2 nm = some p) : chn ls (f + 1) nm = p :: chn ls f p.1.frm := by rw [chn, h]
theorem chn_mem (ls : List (Ln × Value)) : ∀ (f : Nat) (nm : ByteArray), ∀ p ∈ chn ls f nm, p ∈ ls
  | 0, _, p, h => by simp [chn] at h
  | f + 1, nm, p, h => by
    rw [chn] at h
    split at h
    · simp at h
    · rename_i q hq
      rcases List.mem_cons.1 h with h | h
      · subst h; exact findL_mem hq
      · exact chn_mem ls f _ p h
theorem chn_len (ls : List (Ln × Value)) : ∀ (f : Nat) (nm : ByteArray), (chn ls f nm).length ≤ f
  | 0, _ => by simp [chn]
  | f + 1, nm => by
    rw [chn]
    split
    · simp
    · have := chn_len ls f (by assumption : Ln × Value).1.frm
      simp; omega
theorem info_line : (Tryz.prog.info? 136).map (fun i => (i.zero, i.size, i.bytes)) = some (some (.agg #[.int .i64 0, .int .i64 0, .string ⟨#[]⟩, .string ⟨#[]⟩, .slice none 0 0]), 5, 72) := by kernel_rfl
theorem cells_new_at (w : World) (cs : List Value) (t : TypeId) {g : Nat} (hg : g = w.heap.size) : ∀ (j : Nat) (u : Value), cs[j]? = some u → (w.alloc (.cells cs.toArray t)).cell? ((⟨g, 0, none⟩ : Addr).add j) = some u := by
  subst hg
  exact cells_new w cs t
theorem heap_alloc_at' (w : World) (o : Obj) {k : Nat} (hk : k = w.heap.size) : (w.alloc o).heap[k]? = some o := by
  subst hk
  show (w.heap.push o)[w.heap.size]? = some o
  simp
theorem heap_alloc_lt' (w : World) (o : Obj) {k : Nat} (hk : k < w.heap.size) : (w.alloc o).heap[k]? = w.heap[k]? := Below.heap_alloc w o k hk
def lenOf : Value → Nat
  | .slice _ n _ => n
  | _ => 0
theorem lines_own {w : World} {B : Nat} {v : Value} {ls : List (Ln × Value)} {e : TypeId} (h : w.ownsRow B e 5 v ls.length (flatL ls)) (hs : ∀ p ∈ ls, RowAt w p.2 p.1.sets.length (flatS p.1.sets)) : LinesAt w v ls := ⟨own_row h, hs⟩
set_option maxRecDepth 20000 in
set_option maxHeartbeats 2000000 in
theorem chainOf_any (x0 x1 : Int) (s2 frm : ByteArray) (so : Option Addr) (m4 sc : Nat) (ao : Option Addr) (cap n : Nat) (ls : List (Ln × Value)) (w : World) (hl : LinesAt w (.slice ao n cap) ls) (hn : ls.length = n) (hn1 : n ≤ 1001) :
    Calls Tryz.prog 112 #[lnA' x0 x1 s2 frm so m4 sc, .slice ao n cap] w fun e w' => ∃ co cc, e = .returned (.slice co (chn ls 7 frm).length cc) ∧ LinesAt w' (.slice co (chn ls 7 frm).length cc) (chn ls 7 frm) ∧ Below w.heap.size w w' := by
  obtain ⟨t0, hi, hz0, hz1, hz2⟩ := info_parts info_line
  have HL : Hid (LinesAt w (.slice ao n cap) ls ∧ ls.length = n) := ⟨hl, hn⟩
  clear hl hn
  have HST : ((w.alloc (bLn x0 x1 s2 frm so m4 sc)).alloc (.cells #[] 136)).ownsRow w.heap.size 136 5 (.slice (some ⟨w.heap.size + 1, 0, none⟩) 0 0) 0 [] := by
    have h := World.ownsRow_made (base := w.heap.size) (e := 136) (size := 5) (w.alloc (bLn x0 x1 s2 frm so m4 sc)) #[] 0 (by rw [World.size_alloc]; omega) (Nat.zero_le _) rfl
    rw [World.size_alloc] at h
    exact h
  have HST' := hideIt HST
  clear HST
  go_enter Tryz.func112, Tryz.ntmps112
  go_wp2_with fail
  go_loopw [5, 6] (fun v s wr => ∃ (m : Nat) (acc : List (Ln × Value)) (nm : ByteArray), m ≤ 7 ∧ s = .string nm ∧ Hid (chn ls 7 frm = acc ++ chn ls (7 - m) nm ∧ acc.length = m ∧ ∀ p ∈ acc, p ∈ ls) ∧ wr.ownsRow w.heap.size 136 5 v m (flatL acc) ∧ Below w.heap.size w wr) (fun v _ _ => 7 - lenOf v)
  case atStart => exact ⟨0, [], frm, by omega, rfl, ⟨rfl, rfl, by simp⟩, HST'.out, nx_trans (nx_alloc _ _) (nx_alloc _ _)⟩
  case round =>
    obtain ⟨m, acc, nm, hm, rfl, HS, hown, hbel⟩ := hrel
    have hBw : w.heap.size ≤ wr.heap.size := hbel.size
    obtain ⟨vo, vc, hv, _⟩ := own_row hown
    subst hv
    by_cases hm6 : m ≤ 6
    · go_wp2_with fail
      refine (find_base nm ao cap n ls _ (HL.out.1.nx hbel) HL.out.2 hn1).mono ?_
      rintro e w5 (⟨hno, rfl, hb5⟩ | ⟨l, so', sc', hso, rfl, hb5⟩)
      · have HF : Hid (chn ls 7 frm = acc ∧ (chn ls 7 frm).length = m) := by
          have e : chn ls 7 frm = acc := by rw [HS.out.1, chn_none hno, List.append_nil]
          exact ⟨e, by rw [e]; exact HS.out.2.1⟩
        have HX : Hid (LinesAt (w5.alloc bZero') (.slice vo m vc) acc ∧ Below w.heap.size w (w5.alloc bZero')) := by
          have h1 : LinesAt wr (.slice vo m vc) acc := ⟨by rw [HS.out.2.1]; exact own_row hown, fun p hp => ((HL.out.1.nx hbel).2 p (HS.out.2.2 p hp))⟩
          exact ⟨(h1.nx hb5).nx (nx_alloc _ _), nx_trans hbel (nx_trans hb5 (nx_alloc _ _))⟩
        clear hno hown hbel hb5
        go_wp2_with fail
        go_ret
        exact ⟨vo, vc, ret_slc HF.out.2.symm, (by rw [HF.out.2, HF.out.1]; exact HX.out.1), HX.out.2⟩
      · have hlk : l.kind = 2 := findL_kind hso
        have hlb : ((l.kind : Int) == 0) = false := by rw [int_eq0]; simp; omega
        have HN : Hid (chn ls 7 frm = (acc ++ [(l, .slice so' l.sets.length sc')]) ++ chn ls (7 - (m + 1)) l.frm ∧ (l, Value.slice so' l.sets.length sc') ∈ ls) := by
          refine ⟨?_, findL_mem hso⟩
          have e : 7 - m = (7 - (m + 1)) + 1 := by omega
          rw [HS.out.1, e, chn_some hso]; simp
        obtain ⟨k5, hk5⟩ : ∃ k5, l.sets.length = k5 := ⟨_, rfl⟩
        have hown5 : w5.ownsRow w.heap.size 136 5 (.slice vo m vc) m (flatL acc) := own_below hown hb5
        have hbel5 : Below w.heap.size w w5 := nx_trans hbel hb5
        have hB5 : w.heap.size ≤ w5.heap.size := hbel5.size
        have HK5 := hideIt hk5
        rw [hk5]
        clear hso hlk hown hbel hb5 hBw hk5
        go_wp2_with (at_builtin; refine wpList_append_own _ rfl (.tmp 21) (.tmp 23) 111 rfl w.heap.size 136 t0 _ 5 72 Tryz.underlying111 hi hz0 hz1 hz2 rfl (by decide) _ _ _ rfl ((hown5.alloc _).alloc _) ⟨w5.heap.size + 1, 0, none⟩ 1 1 [.int .i64 (l.place : Int), .int .i64 (l.kind : Int), .string l.name, .string l.frm, .slice so' k5 sc'] rfl rfl ?c1 ?c2 ?c3 ?c4 ?c5 ?next)
        case c1 => exact cells_new_at (w5.alloc _) [.int .i64 (l.place : Int), .int .i64 (l.kind : Int), .string l.name, .string l.frm, .slice so' k5 sc'] _ (by simp)
        case c2 => intro u hu; simp at hu; rcases hu with rfl | rfl | rfl | rfl | rfl <;> rfl
        case c3 => unfold maxLen; omega
        case c4 => omega
        case c5 => simp; omega
        case next =>
          intro v' w6 hown' hgrow _
          have R : w6.ownsRow w.heap.size 136 5 v' (m + 1) (flatL (acc ++ [(l, .slice so' l.sets.length sc')])) ∧ Below w.heap.size w w6 := by
            refine ⟨by rw [flatL_append, HK5.out]; exact hown', ((hbel5.alloc hB5 _).alloc (by simp; omega) _).grown hgrow (by simp; omega) (fun g hg => (hown5.lt g hg).1)⟩
          have hcb : w6.cell? ⟨w5.heap.size, 3, none⟩ = some (.string l.frm) := by
            have hb := hgrow.block w5.heap.size (by simp; omega) (by
              intro h
              have := (hown5.lt _ h.symm).2
              omega)
            rw [heap_alloc_lt' _ _ (by simp), heap_alloc_at' _ _ rfl] at hb
            simp [World.cell?, hb]
          obtain ⟨vo', vc', hv', _⟩ := own_row R.1
          subst hv'
          clear hown' hgrow hown5 hbel5
          go_wp2_with fail
          go_roundw
          case rel => exact ⟨m + 1, acc ++ [(l, .slice so' l.sets.length sc')], l.frm, by omega, rfl, ⟨HN.out.1, by simp [HS.out.2.1], fun p hp => by
            rcases List.mem_append.1 hp with h | h
            · exact HS.out.2.2 p h
            · simp at h; subst h; exact HN.out.2⟩, R.1, R.2⟩
          case measure => simp [lenOf]; omega
    · obtain rfl : m = 7 := by omega
      have HF : Hid (chn ls 7 frm = acc ∧ (chn ls 7 frm).length = 7) := by
        have e : chn ls 7 frm = acc := by rw [HS.out.1]; simp [chn]
        exact ⟨e, by rw [e]; exact HS.out.2.1⟩
      have HX : Hid (LinesAt wr (.slice vo 7 vc) acc ∧ Below w.heap.size w wr) :=
        ⟨⟨by rw [HS.out.2.1]; exact own_row hown, fun p hp => ((HL.out.1.nx hbel).2 p (HS.out.2.2 p hp))⟩, hbel⟩
      clear hown hbel
      go_wp2_with fail
      go_ret
      exact ⟨vo, vc, ret_slc HF.out.2.symm, (by rw [HF.out.2, HF.out.1]; exact HX.out.1), HX.out.2⟩
end Co
end Go.Proofs.YtohbonfngeblkaaGreat
