
import Derived.Test.YtehehkahmpbjhaaDoorCoJ
namespace Go.Proofs.YtehehkahmpbjhaaDoor
open Go.RowKit
namespace Co

/-- the place of the first line whose chain has more bases than most; 0: there is none -/
def longN (all : List (Ln × Value)) (most : Nat) : List (Ln × Value) → Nat
  | [] => 0
  | p :: r => if most < (chn all 7 p.1.frm).length then p.1.place else longN all most r

set_option maxRecDepth 20000 in
set_option maxHeartbeats 2000000 in
theorem longer_any (most : Nat) (ao : Option Addr) (cap n : Nat) (ls : List (Ln × Value)) (w : World) (hl : LinesAt w (.slice ao n cap) ls) (hn : ls.length = n) (hn1 : n ≤ 1001) :
    Calls Tryd.prog 30 #[.slice ao n cap, .int .i64 (most : Int)] w fun e w' => e = .returned (.int .i64 (longN ls most ls)) ∧ Below w.heap.size w w' := by
  have HL : Hid (LinesAt w (.slice ao n cap) ls ∧ ls.length = n) := ⟨hl, hn⟩
  clear hl hn
  go_enter Tryd.func30, Tryd.ntmps30
  go_wp2_with fail
  go_loopw [5] (fun i wr => ∃ (k : Nat), k ≤ n ∧ i = .int .i64 k ∧ Hid (longN ls most (ls.drop k) = longN ls most ls) ∧ Below w.heap.size w wr) (fun i _ => n - (intOf i).toNat)
  case atStart => exact ⟨0, Nat.zero_le _, rfl, rfl, Below.refl _ _⟩
  case round =>
    obtain ⟨k, hk, rfl, HS, hbel⟩ := hrel
    by_cases hlt : k < n
    · obtain ⟨⟨l, sv⟩, hp⟩ : ∃ p, ls[k]? = some p := ⟨_, List.getElem?_eq_getElem (by rw [HL.out.2]; exact hlt)⟩
      obtain ⟨bl, off, so, sc, hao, hbl, hsv, _, c0, c1, c2, c3, c4⟩ := (HL.out.1.nx hbel).at hp
      have HD : Hid (ls.drop k = (l, sv) :: ls.drop (k + 1)) := drop_at hp
      have hlti : (k : Int) < (n : Int) := by omega
      have HCH := hideIt (chainOf_any l.place l.kind l.name l.frm so l.sets.length sc ao cap n ls wr (HL.out.1.nx hbel) HL.out.2 hn1)
      subst hao
      clear hp hsv
      go_wp2_with fail
      refine HCH.out.mono ?_
      rintro e w2 ⟨co, cc, rfl, _, hb2⟩
      obtain ⟨q, hq⟩ : ∃ q, (chn ls 7 l.frm).length = q := ⟨_, rfl⟩
      rw [hq]
      have hq7 : q ≤ 7 := by rw [← hq]; exact chn_len _ _ _
      have d0 : w2.cell? ⟨bl, off + k * 5, none⟩ = some (.int .i64 (l.place : Int)) := (hb2.cell (p := ⟨bl, off + k * 5, none⟩) hbl).trans c0
      have HB : Hid (Below w.heap.size w w2) := nx_trans hbel hb2
      by_cases hmq : most < q
      · have HX : Hid (longN ls most ls = l.place) := by
          show _ = _
          rw [← HS.out, HD.out, longN, hq, if_pos hmq]
        clear hq hb2 hbel c0 c1 c2 c3 c4
        go_wp2_with fail
        go_ret
        exact ⟨ret_i (by rw [HX.out]), HB.out⟩
      · have HX : Hid (longN ls most (ls.drop (k + 1)) = longN ls most ls) := by
          show _ = _
          rw [← HS.out, HD.out, longN, hq, if_neg hmq]
        clear hq hb2 hbel c0 c1 c2 c3 c4
        go_wp2_with fail
        go_roundw
        case rel => exact ⟨k + 1, by omega, by go_num, HX.out, HB.out⟩
        case measure => simp [intOf]; omega
    · go_wp2_with fail
      go_ret
      exact ⟨ret_i (by rw [← HS.out, List.drop_of_length_le (by rw [HL.out.2]; omega)]; rfl), hbel⟩
theorem longer_6 (ao : Option Addr) (cap n : Nat) (ls : List (Ln × Value)) (w : World) (hl : LinesAt w (.slice ao n cap) ls) (hn : ls.length = n) (hn1 : n ≤ 1001) :
    Calls Tryd.prog 30 #[.slice ao n cap, .int .i64 6] w fun e w' => e = .returned (.int .i64 (longN ls 6 ls)) ∧ Below w.heap.size w w' := longer_any 6 ao cap n ls w hl hn hn1
theorem longer_3 (ao : Option Addr) (cap n : Nat) (ls : List (Ln × Value)) (w : World) (hl : LinesAt w (.slice ao n cap) ls) (hn : ls.length = n) (hn1 : n ≤ 1001) :
    Calls Tryd.prog 30 #[.slice ao n cap, .int .i64 3] w fun e w' => e = .returned (.int .i64 (longN ls 3 ls)) ∧ Below w.heap.size w w' := longer_any 3 ao cap n ls w hl hn hn1

/-- the place of the first line whose base is not there; 0: all are -/
def noBase (all : List (Ln × Value)) : List (Ln × Value) → Option Nat
  | [] => none
  | p :: r => if baseB all p.1.frm = true then noBase all r else some p.1.place
def chainE (ls : List (Ln × Value)) : Nat × Nat :=
  match noBase ls ls with
  | some k => (6, k)
  | none => if 0 < longN ls 6 ls then (7, longN ls 6 ls) else if 0 < longN ls 3 ls then (8, longN ls 3 ls) else (0, 0)

theorem ret_ii {a b x y : Int} (h : a = b) (h2 : x = y) : Ending.returned (.tuple #[.int .i64 a, .int .i64 x]) = .returned (.tuple #[.int .i64 b, .int .i64 y]) := by rw [h, h2]

set_option maxRecDepth 20000 in
set_option maxHeartbeats 2000000 in
theorem chainFault_any (ao : Option Addr) (cap n : Nat) (ls : List (Ln × Value)) (w : World) (hl : LinesAt w (.slice ao n cap) ls) (hn : ls.length = n) (hn1 : n ≤ 1001) :
    Calls Tryd.prog 21 #[.slice ao n cap] w fun e w' => e = .returned (.tuple #[.int .i64 (chainE ls).1, .int .i64 (chainE ls).2]) ∧ Below w.heap.size w w' := by
  have HL : Hid (LinesAt w (.slice ao n cap) ls ∧ ls.length = n) := ⟨hl, hn⟩
  clear hl hn
  go_enter Tryd.func21, Tryd.ntmps21
  go_wp2_with fail
  go_loopw [4] (fun i wr => ∃ (k : Nat), k ≤ n ∧ i = .int .i64 k ∧ Hid (noBase ls (ls.drop k) = noBase ls ls) ∧ Below w.heap.size w wr) (fun i _ => n - (intOf i).toNat)
  case atStart => exact ⟨0, Nat.zero_le _, rfl, rfl, Below.refl _ _⟩
  case round =>
    obtain ⟨k, hk, rfl, HS, hbel⟩ := hrel
    by_cases hlt : k < n
    · obtain ⟨⟨l, sv⟩, hp⟩ : ∃ p, ls[k]? = some p := ⟨_, List.getElem?_eq_getElem (by rw [HL.out.2]; exact hlt)⟩
      obtain ⟨bl, off, so, sc, hao, hbl, hsv, _, c0, c1, c2, c3, c4⟩ := (HL.out.1.nx hbel).at hp
      have HD : Hid (ls.drop k = (l, sv) :: ls.drop (k + 1)) := drop_at hp
      have hlti : (k : Int) < (n : Int) := by omega
      have HBT := hideIt (baseThere_any l.place l.kind l.name l.frm so l.sets.length sc ao cap n ls wr (HL.out.1.nx hbel) HL.out.2 hn1)
      subst hao
      clear hp hsv
      cases hbb : baseB ls l.frm
      · have HX : Hid (chainE ls = (6, l.place)) := by
          have e : noBase ls ls = some l.place := by rw [← HS.out, HD.out, noBase, hbb]; rfl
          show _ = _
          rw [chainE, e]
        go_wp2_with fail
        refine HBT.out.mono ?_
        rintro e w2 ⟨rfl, hb2⟩
        rw [hbb]
        have d0 : w2.cell? ⟨bl, off + k * 5, none⟩ = some (.int .i64 (l.place : Int)) := (hb2.cell (p := ⟨bl, off + k * 5, none⟩) hbl).trans c0
        have HB : Hid (Below w.heap.size w w2) := nx_trans hbel hb2
        clear hb2 hbel c0 c1 c2 c3 c4
        go_wp2_with fail
        go_quiet (fail)
        go_wp2_with fail
        go_ret2
        exact ⟨ret_ii (by rw [HX.out]; rfl) (by rw [HX.out]), below_drewN HB.out _⟩
      · have HX : Hid (noBase ls (ls.drop (k + 1)) = noBase ls ls) := by
          show _ = _
          rw [← HS.out, HD.out, noBase, hbb, if_pos rfl]
        go_wp2_with fail
        refine HBT.out.mono ?_
        rintro e w2 ⟨rfl, hb2⟩
        rw [hbb]
        have HB : Hid (Below w.heap.size w w2) := nx_trans hbel hb2
        clear hb2 hbel c0 c1 c2 c3 c4
        go_wp2_with fail
        go_roundw
        case rel => exact ⟨k + 1, by omega, by go_num, HX.out, HB.out⟩
        case measure => simp [intOf]; omega
    · have HN : Hid (noBase ls ls = none) := by
        show _ = _
        rw [← HS.out, List.drop_of_length_le (by rw [HL.out.2]; omega)]; rfl
      go_wp2_with fail
      refine (longer_6 ao cap n ls wr (HL.out.1.nx hbel) HL.out.2 hn1).mono ?_
      rintro e w2 ⟨rfl, hb2⟩
      obtain ⟨a6, h6⟩ : ∃ a6, longN ls 6 ls = a6 := ⟨_, rfl⟩
      rw [h6]
      have hbel2 := nx_trans hbel hb2
      by_cases h6p : 0 < a6
      · have HX : Hid (chainE ls = (7, a6)) := by show _ = _; rw [chainE, HN.out]; simp only; rw [h6, if_pos h6p]
        clear h6 hbel hb2
        go_wp2_with fail
        go_ret2
        exact ⟨ret_ii (by rw [HX.out]; rfl) (by rw [HX.out]), hbel2⟩
      · have h6i : ¬ (0 : Int) < (a6 : Int) := by omega
        have H6 := hideIt h6
        clear h6 hbel hb2
        go_wp2_with fail
        refine (longer_3 ao cap n ls w2 (HL.out.1.nx hbel2) HL.out.2 hn1).mono ?_
        rintro e w3 ⟨rfl, hb3⟩
        obtain ⟨a3, h3⟩ : ∃ a3, longN ls 3 ls = a3 := ⟨_, rfl⟩
        rw [h3]
        have hbel3 := nx_trans hbel2 hb3
        by_cases h3p : 0 < a3
        · have HX : Hid (chainE ls = (8, a3)) := by show _ = _; rw [chainE, HN.out]; simp only; rw [H6.out, if_neg h6p, h3, if_pos h3p]
          clear h3 hbel2 hb3
          go_wp2_with fail
          go_ret2
          exact ⟨ret_ii (by rw [HX.out]; rfl) (by rw [HX.out]), hbel3⟩
        · have HX : Hid (chainE ls = (0, 0)) := by show _ = _; rw [chainE, HN.out]; simp only; rw [H6.out, if_neg h6p, h3, if_neg h3p]
          have h3i : ¬ (0 : Int) < (a3 : Int) := by omega
          clear h3 hbel2 hb3
          go_wp2_with fail
          go_ret2
          exact ⟨ret_ii (by rw [HX.out]; rfl) (by rw [HX.out]; rfl), hbel3⟩
end Co
end Go.Proofs.YtehehkahmpbjhaaDoor
