import Derived.Test.YtohbonfngeblkaaGreatMnC
namespace Go.Proofs.YtohbonfngeblkaaGreat
open Go.RowKit
namespace Co
def longN (all : List (Ln × Value)) (most : Nat) : List (Ln × Value) → Nat
  | [] => 0
  | p :: r => if most < (chn all 7 p.1.frm).length then p.1.place else longN all most r
set_option maxRecDepth 20000 in
set_option maxHeartbeats 2000000 in
theorem longer_any (most : Nat) (ao : Option Addr) (cap n : Nat) (ls : List (Ln × Value)) (w : World) (hl : LinesAt w (.slice ao n cap) ls) (hn : ls.length = n) (hn1 : n ≤ 1001) :
    Calls Tryz.prog 94 #[.slice ao n cap, .int .i64 (most : Int)] w fun e w' => e = .returned (.int .i64 (longN ls most ls)) ∧ Below w.heap.size w w' := by
  have HL : Hid (LinesAt w (.slice ao n cap) ls ∧ ls.length = n) := ⟨hl, hn⟩
  clear hl hn
  go_enter Tryz.func94, Tryz.ntmps94
  go_wp2_with fail
  go_loopw [5] (fun i wr => ∃ (k : Nat), k ≤ n ∧ i = .int .i64 k ∧ Hid (longN ls most (ls.drop k) = longN ls most ls) ∧ Below w.heap.size w wr) (fun i _ => n - (intOf i).toNat)
  case atStart => exact ⟨0, Nat.zero_le _, rfl, rfl, Below.refl _ _⟩
  case round =>
    obtain ⟨k, hk, rfl, HS, hbel⟩ := hrel
    by_cases hlt : k < n
    · obtain ⟨⟨l, sv⟩, hp⟩ : ∃ p, ls[k]? = some p := ⟨_, List.getElem?_eq_getElem (by rw [HL.out.2]; exact hlt)⟩
      obtain ⟨bl, off, so, sc, hao, hbl, hsv, _, c0, c1, c2, c3, c4⟩ := (HL.out.1.nx hbel).at hp
      have HD : Hid (ls.drop k = (l, sv) :: ls.drop (k + 1)) := drop_at hp
      have hlti : (k : Int) < (n : Int) := by omega
      have HCH := hideIt (chainOf_any l.place l.kind l.name l.frm so l.sets.length sc ao cap n ls wr (HL.out.1.nx hbel) HL.out.2 hn1)
      subst hao
      clear hp hsv
      go_wp2_with fail
      refine HCH.out.mono ?_
      rintro e w2 ⟨co, cc, rfl, _, hb2⟩
      obtain ⟨q, hq⟩ : ∃ q, (chn ls 7 l.frm).length = q := ⟨_, rfl⟩
      rw [hq]
      have hq7 : q ≤ 7 := by rw [← hq]; exact chn_len _ _ _
      have d0 : w2.cell? ⟨bl, off + k * 5, none⟩ = some (.int .i64 (l.place : Int)) := (hb2.cell (p := ⟨bl, off + k * 5, none⟩) hbl).trans c0
      have HB : Hid (Below w.heap.size w w2) := nx_trans hbel hb2
      by_cases hmq : most < q
      · have HX : Hid (longN ls most ls = l.place) := by
          show _ = _
          rw [← HS.out, HD.out, longN, hq, if_pos hmq]
        clear hq hb2 hbel c0 c1 c2 c3 c4
        go_wp2_with fail
        go_ret
        exact ⟨ret_i (by rw [HX.out]), HB.out⟩
      · have HX : Hid (longN ls most (ls.drop (k + 1)) = longN ls most ls) := by
          show _ = _
          rw [← HS.out, HD.out, longN, hq, if_neg hmq]
        clear hq hb2 hbel c0 c1 c2 c3 c4
        go_wp2_with fail
        go_roundw
        case rel => exact ⟨k + 1, by omega, by go_num, HX.out, HB.out⟩
        case measure => simp [intOf]; omega
    · go_wp2_with fail
      go_ret
      exact ⟨ret_i (by rw [← HS.out, List.drop_of_length_le (by rw [HL.out.2]; omega)]; rfl), hbel⟩
theorem longer_6 (ao : Option Addr) (cap n : Nat) (ls : List (Ln × Value)) (w : World) (hl : LinesAt w (.slice ao n cap) ls) (hn : ls.length = n) (hn1 : n ≤ 1001) :
    Calls Tryz.prog 94 #[.slice ao n cap, .int .i64 6] w fun e w' => e = .returned (.int .i64 (longN ls 6 ls)) ∧ Below w.heap.size w w' := longer_any 6 ao cap n ls w hl hn hn1
theorem longer_3 (ao : Option Addr) (cap n : Nat) (ls : List (Ln × Value)) (w : World) (hl : LinesAt w (.slice ao n cap) ls) (hn : ls.length = n) (hn1 : n ≤ 1001) :
    Calls Tryz.prog 94 #[.slice ao n cap, .int .i64 3] w fun e w' => e = .returned (.int .i64 (longN ls 3 ls)) ∧ Below w.heap.size w w' := longer_any 3 ao cap n ls w hl hn hn1
def noBase (all : List (Ln × Value)) : List (Ln × Value) → Option Nat
  | [] => none
  | p :: r => if baseB all p.1.frm = true then noBase all r else some p.1.place
def chainE (ls : List (Ln × Value)) : Nat × Nat :=
  match noBase ls ls with
  | some k => (6, k)
  | none => if 0 < longN ls 6 ls then (7, longN ls 6 ls) else if 0 < longN ls 3 ls then (8, longN ls 3 ls) else (0, 0)
theorem ret_ii {a b x y : Int} (h : a = b) (h2 : x = y) : Ending.returned (.tuple #[.int .i64 a, .int .i64 x]) = .returned (.tuple #[.int .i64 b, .int .i64 y]) := by rw [h, h2]
set_option maxRecDepth 20000 in
set_option maxHeartbeats 2000000 in
theorem chainFault_any (ao : Option Addr) (cap n : Nat) (ls : List (Ln × Value)) (w : World) (hl : LinesAt w (.slice ao n cap) ls) (hn : ls.length = n) (hn1 : n ≤ 1001) :
    Calls Tryz.prog 72 #[.slice ao n cap] w fun e w' => e = .returned (.tuple #[.int .i64 (chainE ls).1, .int .i64 (chainE ls).2]) ∧ Below w.heap.size w w' := by
  have HL : Hid (LinesAt w (.slice ao n cap) ls ∧ ls.length = n) := ⟨hl, hn⟩
  clear hl hn
  go_enter Tryz.func72, Tryz.ntmps72
  go_wp2_with fail
  go_loopw [4] (fun i wr => ∃ (k : Nat), k ≤ n ∧ i = .int .i64 k ∧ Hid (noBase ls (ls.drop k) = noBase ls ls) ∧ Below w.heap.size w wr) (fun i _ => n - (intOf i).toNat)
  case atStart => exact ⟨0, Nat.zero_le _, rfl, rfl, Below.refl _ _⟩
  case round =>
    obtain ⟨k, hk, rfl, HS, hbel⟩ := hrel
    by_cases hlt : k < n
    · obtain ⟨⟨l, sv⟩, hp⟩ : ∃ p, ls[k]? = some p := ⟨_, List.getElem?_eq_getElem (by rw [HL.out.2]; exact hlt)⟩
      obtain ⟨bl, off, so, sc, hao, hbl, hsv, _, c0, c1, c2, c3, c4⟩ := (HL.out.1.nx hbel).at hp
      have HD : Hid (ls.drop k = (l, sv) :: ls.drop (k + 1)) := drop_at hp
      have hlti : (k : Int) < (n : Int) := by omega
      have HBT := hideIt (baseThere_any l.place l.kind l.name l.frm so l.sets.length sc ao cap n ls wr (HL.out.1.nx hbel) HL.out.2 hn1)
      subst hao
      clear hp hsv
      cases hbb : baseB ls l.frm
      · have HX : Hid (chainE ls = (6, l.place)) := by
          have e : noBase ls ls = some l.place := by rw [← HS.out, HD.out, noBase, hbb]; rfl
          show _ = _
          rw [chainE, e]
        go_wp2_with fail
        refine HBT.out.mono ?_
        rintro e w2 ⟨rfl, hb2⟩
        rw [hbb]
        have d0 : w2.cell? ⟨bl, off + k * 5, none⟩ = some (.int .i64 (l.place : Int)) := (hb2.cell (p := ⟨bl, off + k * 5, none⟩) hbl).trans c0
        have HB : Hid (Below w.heap.size w w2) := nx_trans hbel hb2
        clear hb2 hbel c0 c1 c2 c3 c4
        go_wp2_with fail
        go_quiet (fail)
        go_wp2_with fail
        go_ret2
        exact ⟨ret_ii (by rw [HX.out]; rfl) (by rw [HX.out]), below_drewN HB.out _⟩
      · have HX : Hid (noBase ls (ls.drop (k + 1)) = noBase ls ls) := by
          show _ = _
          rw [← HS.out, HD.out, noBase, hbb, if_pos rfl]
        go_wp2_with fail
        refine HBT.out.mono ?_
        rintro e w2 ⟨rfl, hb2⟩
        rw [hbb]
        have HB : Hid (Below w.heap.size w w2) := nx_trans hbel hb2
        clear hb2 hbel c0 c1 c2 c3 c4
        go_wp2_with fail
        go_roundw
        case rel => exact ⟨k + 1, by omega, by go_num, HX.out, HB.out⟩
        case measure => simp [intOf]; omega
    · have HN : Hid (noBase ls ls = none) := by
        show _ = _
        rw [← HS.out, List.drop_of_length_le (by rw [HL.out.2]; omega)]; rfl
      go_wp2_with fail
      refine (longer_6 ao cap n ls wr (HL.out.1.nx hbel) HL.out.2 hn1).mono ?_
      rintro e w2 ⟨rfl, hb2⟩
      obtain ⟨a6, h6⟩ : ∃ a6, longN ls 6 ls = a6 := ⟨_, rfl⟩
      rw [h6]
      have hbel2 := nx_trans hbel hb2
      by_cases h6p : 0 < a6
      · have HX : Hid (chainE ls = (7, a6)) := by show _ = _; rw [chainE, HN.out]; simp only; rw [h6, if_pos h6p]
        clear h6 hbel hb2
        go_wp2_with fail
        go_ret2
        exact ⟨ret_ii (by rw [HX.out]; rfl) (by rw [HX.out]), hbel2⟩
      · have h6i : ¬ (0 : Int) < (a6 : Int) := by omega
        have H6 := hideIt h6
        clear h6 hbel hb2
        go_wp2_with fail
        refine (longer_3 ao cap n ls w2 (HL.out.1.nx hbel2) HL.out.2 hn1).mono ?_
        rintro e w3 ⟨rfl, hb3⟩
        obtain ⟨a3, h3⟩ : ∃ a3, longN ls 3 ls = a3 := ⟨_, rfl⟩
        rw [h3]
        have hbel3 := nx_trans hbel2 hb3
        by_cases h3p : 0 < a3
        · have HX : Hid (chainE ls = (8, a3)) := by show _ = _; rw [chainE, HN.out]; simp only; rw [H6.out, if_neg h6p, h3, if_pos h3p]
          clear h3 hbel2 hb3
          go_wp2_with fail
          go_ret2
          exact ⟨ret_ii (by rw [HX.out]; rfl) (by rw [HX.out]), hbel3⟩
        · have HX : Hid (chainE ls = (0, 0)) := by show _ = _; rw [chainE, HN.out]; simp only; rw [H6.out, if_neg h6p, h3, if_neg h3p]
          have h3i : ¬ (0 : Int) < (a3 : Int) := by omega
          clear h3 hbel2 hb3
          go_wp2_with fail
          go_ret2
          exact ⟨ret_ii (by rw [HX.out]; rfl) (by rw [HX.out]; rfl), hbel3⟩
end Co
end Go.Proofs.YtohbonfngeblkaaGreat
namespace Go.Proofs.YtohbonfngeblkaaGreat
open Go.RowKit
namespace Co
def chv (key : Nat) (other : Int) : List (Ln × Value) → Int
  | [] => other
  | p :: r => match valL p.1.sets key with | some n => n | none => chv key other r
def valOf (key : Nat) (other : Int) (ss : List (Nat × Nat)) (ch : List (Ln × Value)) : Int := match valL ss key with | some n => n | none => chv key other ch
set_option maxRecDepth 20000 in
set_option maxHeartbeats 2000000 in
theorem valueOf_any (key : Nat) (other : Int) (x0 x1 : Int) (s2 s3 : ByteArray) (so : Option Addr) (sc m : Nat) (ss : List (Nat × Nat)) (co : Option Addr) (cc q : Nat) (ch : List (Ln × Value)) (w : World)
    (hr : RowAt w (.slice so m sc) m (flatS ss)) (hm : ss.length = m) (hm1 : m ≤ 1001) (hl : LinesAt w (.slice co q cc) ch) (hq : ch.length = q) (hq1 : q ≤ 1001) (hsl : ∀ p ∈ ch, p.1.sets.length ≤ 1001) :
    Calls Tryz.prog 95 #[.string (wordB key), lnA' x0 x1 s2 s3 so m sc, .slice co q cc, .int .i64 other] w fun e w' => e = .returned (.int .i64 (valOf key other ss ch)) ∧ Below w.heap.size w w' := by
  have HNO := hideIt (numberOf_any key x0 x1 s2 s3 so sc m ss (w.alloc (bLn x0 x1 s2 s3 so m sc)) (hr.nx (nx_alloc _ _)) hm hm1)
  have HL : Hid (LinesAt w (.slice co q cc) ch ∧ ch.length = q ∧ ∀ p ∈ ch, p.1.sets.length ≤ 1001) := ⟨hl, hq, hsl⟩
  clear hr hm hl hq hsl
  cases hv : valL ss key with
  | some n =>
    have HX : Hid (valOf key other ss ch = n) := by show _ = _; rw [valOf, hv]
    have hN : valN ss key = n := by rw [valN, hv]
    have hS : (valL ss key).isSome = true := by rw [hv]; rfl
    clear hv
    go_enter Tryz.func95, Tryz.ntmps95
    go_wp2_with fail
    refine HNO.out.mono ?_; rintro e w1 ⟨rfl, hb1⟩
    rw [hN, hS]
    go_wp2_with fail
    go_ret
    exact ⟨ret_i HX.out.symm, nx_trans (nx_alloc _ _) hb1⟩
  | none =>
    have HX : Hid (valOf key other ss ch = chv key other ch) := by show _ = _; rw [valOf, hv]
    have hN : valN ss key = 0 := by rw [valN, hv]
    have hS : (valL ss key).isSome = false := by rw [hv]; rfl
    clear hv
    go_enter Tryz.func95, Tryz.ntmps95
    go_wp2_with fail
    refine HNO.out.mono ?_; rintro e w1 ⟨rfl, hb1⟩
    rw [hN, hS]
    have HB1 : Hid (Below w.heap.size w w1) := nx_trans (nx_alloc _ _) hb1
    clear hb1 hN hS HNO
    go_wp2_with fail
    go_loopw [9, 10, 11] (fun x ok i wr => ∃ (k : Nat) (a : Int), k ≤ q ∧ i = .int .i64 k ∧ x = .int .i64 a ∧ ok = .bool false ∧ Hid (chv key other (ch.drop k) = chv key other ch) ∧ Below w.heap.size w wr) (fun _ _ i _ => q - (intOf i).toNat)
    case atStart => exact ⟨0, 0, Nat.zero_le _, rfl, rfl, rfl, rfl, HB1.out⟩
    case round =>
      obtain ⟨k, a, hk, rfl, rfl, rfl, HS, hbel⟩ := hrel
      by_cases hlt : k < q
      · obtain ⟨⟨l, sv⟩, hp⟩ : ∃ p, ch[k]? = some p := ⟨_, List.getElem?_eq_getElem (by rw [HL.out.2.1]; exact hlt)⟩
        obtain ⟨bl, off, so', sc', hao, hbl, hsv, hrow, c0, c1, c2, c3, c4⟩ := (HL.out.1.nx hbel).at hp
        have HD : Hid (ch.drop k = (l, sv) :: ch.drop (k + 1)) := drop_at hp
        have hlti : (k : Int) < (q : Int) := by omega
        have HNO2 := hideIt (numberOf_any key l.place l.kind l.name l.frm so' sc' l.sets.length l.sets wr hrow rfl (HL.out.2.2 _ (List.mem_of_getElem? hp)))
        subst hao
        clear hp hsv hrow
        cases hv : valL l.sets key with
        | some n =>
          have HY : Hid (chv key other ch = n) := by show _ = _; rw [← HS.out, HD.out, chv, hv]
          have hN : valN l.sets key = n := by rw [valN, hv]
          have hS : (valL l.sets key).isSome = true := by rw [hv]; rfl
          clear hv
          go_wp2_with fail
          refine HNO2.out.mono ?_; rintro e w2 ⟨rfl, hb2⟩
          rw [hN, hS]
          go_wp2_with fail
          go_ret
          exact ⟨ret_i (by rw [HX.out, HY.out]), nx_trans hbel hb2⟩
        | none =>
          have HY : Hid (chv key other (ch.drop (k + 1)) = chv key other ch) := by show _ = _; rw [← HS.out, HD.out, chv, hv]
          have hN : valN l.sets key = 0 := by rw [valN, hv]
          have hS : (valL l.sets key).isSome = false := by rw [hv]; rfl
          clear hv
          go_wp2_with fail
          refine HNO2.out.mono ?_; rintro e w2 ⟨rfl, hb2⟩
          rw [hN, hS]
          have hb3 := nx_trans hbel hb2
          clear hbel hb2 c0 c1 c2 c3 c4
          go_wp2_with fail
          go_roundw
          case rel => exact ⟨k + 1, 0, by omega, by go_num, rfl, rfl, HY.out, hb3⟩
          case measure => simp [intOf]; omega
      · go_wp2_with fail
        go_ret
        exact ⟨ret_i (by rw [HX.out, ← HS.out, List.drop_of_length_le (by rw [HL.out.2.1]; omega)]; rfl), hbel⟩
structure Pl where
  nm : ByteArray
  sz : Int
  wt : Int
  fr : Int
def flatP : List Pl → List Value
  | [] => []
  | p :: r => .string p.nm :: .int .i64 p.sz :: .int .i64 p.wt :: .int .i64 p.fr :: flatP r
theorem flatP_append : ∀ a b : List Pl, flatP (a ++ b) = flatP a ++ flatP b
  | [], b => rfl
  | p :: a, b => by simp [flatP, flatP_append a b]
theorem flatP_at : ∀ (ps : List Pl) (i : Nat) (p : Pl), ps[i]? = some p → (flatP ps)[i * 4]? = some (.string p.nm) ∧ (flatP ps)[i * 4 + 1]? = some (.int .i64 p.sz) ∧ (flatP ps)[i * 4 + 2]? = some (.int .i64 p.wt) ∧ (flatP ps)[i * 4 + 3]? = some (.int .i64 p.fr)
  | [], i, p, h => by simp at h
  | q :: r, 0, p, h => by simp at h; subst h; simp [flatP]
  | q :: r, i + 1, p, h => by
    have ih := flatP_at r i p (by simpa using h)
    have e0 : (i + 1) * 4 = i * 4 + 4 := by omega
    rw [e0]
    simp only [flatP]
    exact ih
theorem pool_at {w : World} {ao : Option Addr} {n m cap : Nat} {ps : List Pl} (h : RowAt w (.slice ao n cap) m (flatP ps)) {k : Nat} {p : Pl} (hk : ps[k]? = some p) :
    ∃ b off, ao = some ⟨b, off, none⟩ ∧ b < w.heap.size ∧ w.cell? ⟨b, off + k * 4, none⟩ = some (.string p.nm) ∧ w.cell? ⟨b, off + k * 4 + 1, none⟩ = some (.int .i64 p.sz) ∧ w.cell? ⟨b, off + k * 4 + 2, none⟩ = some (.int .i64 p.wt) ∧ w.cell? ⟨b, off + k * 4 + 3, none⟩ = some (.int .i64 p.fr) := by
  obtain ⟨f0, f1, f2, f3⟩ := flatP_at ps k p hk
  obtain ⟨b, off, rfl, hb, g0⟩ := h.at f0
  have hin : ∀ j x, (flatP ps)[k * 4 + j]? = some x → w.cell? ⟨b, off + k * 4 + j, none⟩ = some x := by
    intro j x hx
    obtain ⟨b', off', e, _, g⟩ := h.at hx
    obtain ⟨rfl, rfl⟩ : b = b' ∧ off = off' := by simpa using e
    rw [Nat.add_assoc]; exact g
  exact ⟨b, off, rfl, hb, g0, hin 1 _ f1, hin 2 _ f2, hin 3 _ f3⟩
abbrev plA (p : Pl) : Value := .agg #[.string p.nm, .int .i64 p.sz, .int .i64 p.wt, .int .i64 p.fr]
def insP (p : Pl) : List Pl → List Pl
  | [] => [p]
  | q :: r => if lt p.nm q.nm = true then p :: q :: r else q :: insP p r
theorem insP_yes {p q : Pl} {r : List Pl} (h : lt p.nm q.nm = true) : insP p (q :: r) = p :: q :: r := by rw [insP, if_pos h]
theorem insP_no {p q : Pl} {r : List Pl} (h : lt p.nm q.nm = false) : insP p (q :: r) = q :: insP p r := by rw [insP, if_neg (by simp [h])]
theorem insP_len (p : Pl) : ∀ ps : List Pl, (insP p ps).length = ps.length + 1
  | [] => rfl
  | q :: r => by
    rw [insP]
    split
    · rfl
    · simp [insP_len p r]
theorem info_pl : (Tryz.prog.info? 75).map (fun i => (i.zero, i.size, i.bytes)) = some (some (.agg #[.string ⟨#[]⟩, .int .i64 0, .int .i64 0, .int .i64 0]), 4, 40) := by kernel_rfl
end Co
end Go.Proofs.YtohbonfngeblkaaGreat
namespace Go.Proofs.YtohbonfngeblkaaGreat
open Go.RowKit
namespace Co
theorem own_mono {w : World} {B B' : Nat} {e : TypeId} {size : Nat} {v : Value} {n : Nat} {xs : List Value} (h : w.ownsRow B' e size v n xs) (hB : B ≤ B') : w.ownsRow B e size v n xs := by
  obtain ⟨hl, h⟩ := h
  refine ⟨hl, ?_⟩
  rcases h with h | ⟨g, cap, cur, h1, h2, h3⟩
  · exact .inl h
  · exact .inr ⟨g, cap, cur, h1, Nat.le_trans hB h2, h3⟩
abbrev bPl (p : Pl) : Obj := .cells #[.string p.nm, .int .i64 p.sz, .int .i64 p.wt, .int .i64 p.fr] 75
set_option maxRecDepth 20000 in
set_option maxHeartbeats 4000000 in
theorem insert_any (p : Pl) (ao : Option Addr) (cap n : Nat) (ps : List Pl) (w : World) (hr : RowAt w (.slice ao n cap) n (flatP ps)) (hn : ps.length = n) (hn1 : n ≤ 1001) :
    Calls Tryz.prog 97 #[.slice ao n cap, plA p] w fun e w' => ∃ v, e = .returned v ∧ w'.ownsRow w.heap.size 75 4 v (insP p ps).length (flatP (insP p ps)) ∧ Below w.heap.size w w' := by
  obtain ⟨t0, hi, hz0, hz1, hz2⟩ := info_parts info_pl
  obtain ⟨nm, sz, wt, fr⟩ := p
  have HR : Hid (RowAt w (.slice ao n cap) n (flatP ps) ∧ ps.length = n) := ⟨hr, hn⟩
  clear hr hn
  have HST : Hid (((w.alloc (bPl ⟨nm, sz, wt, fr⟩)).alloc (.cells #[] 75)).ownsRow (w.heap.size + 1) 75 4 (.slice (some ⟨w.heap.size + 1, 0, none⟩) 0 0) 0 []) := by
    have h := World.ownsRow_made (base := w.heap.size + 1) (e := 75) (size := 4) (w.alloc (bPl ⟨nm, sz, wt, fr⟩)) #[] 0 (by rw [World.size_alloc]; omega) (Nat.zero_le _) rfl
    rw [World.size_alloc] at h
    exact h
  have HBX : Hid (Below (w.heap.size + 1) (w.alloc (bPl ⟨nm, sz, wt, fr⟩)) ((w.alloc (bPl ⟨nm, sz, wt, fr⟩)).alloc (.cells #[] 75))) := (Below.refl _ _).alloc (by simp) _
  go_enter Tryz.func97, Tryz.ntmps97
  go_wp2_with fail
  go_loopw [5, 6, 7] (fun v b i wr => ∃ (k m : Nat) (acc : List Pl) (pl : Bool), k ≤ n ∧ i = .int .i64 k ∧ b = .bool pl ∧ m ≤ k + (if pl then 1 else 0) ∧
      Hid (insP ⟨nm, sz, wt, fr⟩ ps = acc ++ (if pl = true then ps.drop k else insP ⟨nm, sz, wt, fr⟩ (ps.drop k)) ∧ acc.length = m) ∧
      wr.ownsRow (w.heap.size + 1) 75 4 v m (flatP acc) ∧ Below (w.heap.size + 1) (w.alloc (bPl ⟨nm, sz, wt, fr⟩)) wr) (fun _ _ i _ => n - (intOf i).toNat)
  case atStart => exact ⟨0, 0, [], false, Nat.zero_le _, rfl, rfl, by omega, ⟨by simp, rfl⟩, HST.out, HBX.out⟩
  case round =>
    obtain ⟨k, m, acc, pl, hk, rfl, rfl, hm, HS, hown, hbel⟩ := hrel
    have hm2 : m ≤ k + 1 := by split at hm <;> omega
    have HMK := hideIt hm
    clear hm
    have hBw : w.heap.size + 1 ≤ wr.heap.size := by have := hbel.size; rw [World.size_alloc] at this; exact this
    have hbox : wr.heap[w.heap.size]? = some (bPl ⟨nm, sz, wt, fr⟩) := (hbel.block _ (by omega)).trans (heap_alloc_at' _ _ rfl)
    have b0 : wr.cell? ⟨w.heap.size, 0, none⟩ = some (.string nm) := by simp [World.cell?, hbox]
    have b1 : wr.cell? ⟨w.heap.size, 1, none⟩ = some (.int .i64 sz) := by simp [World.cell?, hbox]
    have b2 : wr.cell? ⟨w.heap.size, 2, none⟩ = some (.int .i64 wt) := by simp [World.cell?, hbox]
    have b3 : wr.cell? ⟨w.heap.size, 3, none⟩ = some (.int .i64 fr) := by simp [World.cell?, hbox]
    have HBW : Hid (Below w.heap.size w wr) := (nx_alloc _ _).trans (hbel.mono (by omega))
    clear hbox
    obtain ⟨vo, vc, hv, _⟩ := own_row hown
    subst hv
    by_cases hlt : k < n
    · obtain ⟨⟨nm', sz', wt', fr'⟩, hp⟩ : ∃ q, ps[k]? = some q := ⟨_, List.getElem?_eq_getElem (by rw [HR.out.2]; exact hlt)⟩
      obtain ⟨bl, off, hao, hbl, c0, c1, c2, c3⟩ := pool_at (HR.out.1.nx HBW.out) hp
      simp only at c0 c1 c2 c3
      have HD : Hid (ps.drop k = ⟨nm', sz', wt', fr'⟩ :: ps.drop (k + 1)) := drop_at hp
      have HPk := hideIt hp
      have HPk := hideIt hp
      have hlti : (k : Int) < (n : Int) := by omega
      subst hao
      clear hp
      cases pl
      · cases hl : lt nm nm'
        · have hlb : Op.bytesLess nm.toList nm'.toList = false := hl
          have HX : Hid (insP ⟨nm, sz, wt, fr⟩ ps = (acc ++ [⟨nm', sz', wt', fr'⟩]) ++ (if false = true then ps.drop (k + 1) else insP ⟨nm, sz, wt, fr⟩ (ps.drop (k + 1)))) := by
            show _ = _
            rw [HS.out.1]; simp only [Bool.false_eq_true, if_false]
            rw [HD.out, insP_no hl]; simp
          clear hl
          go_wp2_with fail
          go_quiet (fail)
          obtain ⟨wd, hwd⟩ : ∃ wd, wr.drewN nq = wd := ⟨_, rfl⟩
          rw [hwd]
          have hownd : wd.ownsRow (w.heap.size + 1) 75 4 (.slice vo m vc) m (flatP acc) := by rw [← hwd]; exact own_drewN hown nq
          have hbeld : Below (w.heap.size + 1) (w.alloc (bPl ⟨nm, sz, wt, fr⟩)) wd := by rw [← hwd]; exact below_drewN hbel nq
          have hBd : w.heap.size + 1 ≤ wd.heap.size := by rw [← hwd]; exact hBw
          have d0 : wd.cell? ⟨bl, off + k * 4, none⟩ = some (.string nm') := by rw [← hwd]; exact c0
          have d1 : wd.cell? ⟨bl, off + k * 4 + 1, none⟩ = some (.int .i64 sz') := by rw [← hwd]; exact c1
          have d2 : wd.cell? ⟨bl, off + k * 4 + 2, none⟩ = some (.int .i64 wt') := by rw [← hwd]; exact c2
          have d3 : wd.cell? ⟨bl, off + k * 4 + 3, none⟩ = some (.int .i64 fr') := by rw [← hwd]; exact c3
          have e0 : wd.cell? ⟨w.heap.size, 0, none⟩ = some (.string nm) := by rw [← hwd]; exact b0
          have e1 : wd.cell? ⟨w.heap.size, 1, none⟩ = some (.int .i64 sz) := by rw [← hwd]; exact b1
          have e2 : wd.cell? ⟨w.heap.size, 2, none⟩ = some (.int .i64 wt) := by rw [← hwd]; exact b2
          have e3 : wd.cell? ⟨w.heap.size, 3, none⟩ = some (.int .i64 fr) := by rw [← hwd]; exact b3
          have hbld : bl < wd.heap.size := by rw [← hwd]; exact hbl
          clear hwd hown hbel hBw c0 c1 c2 c3 b0 b1 b2 b3 hbl
          go_wp2_with (at_builtin; refine wpList_append_own _ rfl (.tmp 31) (.tmp 36) 22 rfl (w.heap.size + 1) 75 t0 _ 4 40 Tryz.underlying22 hi hz0 hz1 hz2 rfl (by decide) _ _ _ rfl (hownd.alloc _) ⟨wd.heap.size, 0, none⟩ 1 1 [.string nm', .int .i64 sz', .int .i64 wt', .int .i64 fr'] rfl rfl (cells_new _ [.string nm', .int .i64 sz', .int .i64 wt', .int .i64 fr'] _) ?a2 ?a3 ?a4 ?a5 ?an)
          case a2 => intro u hu; simp at hu; rcases hu with rfl | rfl | rfl | rfl <;> rfl
          case a3 => unfold maxLen; omega
          case a4 => omega
          case a5 => simp; omega
          case an =>
            intro v' w6 hown' hgrow _
            have R : w6.ownsRow (w.heap.size + 1) 75 4 v' (m + 1) (flatP (acc ++ [⟨nm', sz', wt', fr'⟩])) ∧ Below (w.heap.size + 1) (w.alloc (bPl ⟨nm, sz, wt, fr⟩)) w6 := by
              refine ⟨by rw [flatP_append]; exact hown', (hbeld.alloc hBd _).grown hgrow (by simp; omega) (fun g hg => (hownd.lt g hg).1)⟩
            clear hown' hgrow hownd hbeld
            go_wp2_with fail
            go_roundw
            case rel => exact ⟨k + 1, m + 1, acc ++ [⟨nm', sz', wt', fr'⟩], false, by omega, by go_num, rfl, by have := HMK.out; simp at this ⊢; omega, ⟨HX.out, by simp [HS.out.2]⟩, R.1, R.2⟩
            case measure => simp [intOf]; omega
        · have hlb : Op.bytesLess nm.toList nm'.toList = true := hl
          have HX : Hid (insP ⟨nm, sz, wt, fr⟩ ps = ((acc ++ [⟨nm, sz, wt, fr⟩]) ++ [⟨nm', sz', wt', fr'⟩]) ++ (if true = true then ps.drop (k + 1) else insP ⟨nm, sz, wt, fr⟩ (ps.drop (k + 1)))) := by
            show _ = _
            rw [HS.out.1]; simp only [Bool.false_eq_true, if_false]
            rw [HD.out, insP_yes hl]; simp
          clear hl
          go_wp2_with fail
          go_quiet (fail)
          obtain ⟨wd, hwd⟩ : ∃ wd, wr.drewN nq = wd := ⟨_, rfl⟩
          rw [hwd]
          have hownd : wd.ownsRow (w.heap.size + 1) 75 4 (.slice vo m vc) m (flatP acc) := by rw [← hwd]; exact own_drewN hown nq
          have hbeld : Below (w.heap.size + 1) (w.alloc (bPl ⟨nm, sz, wt, fr⟩)) wd := by rw [← hwd]; exact below_drewN hbel nq
          have hBd : w.heap.size + 1 ≤ wd.heap.size := by rw [← hwd]; exact hBw
          have d0 : wd.cell? ⟨bl, off + k * 4, none⟩ = some (.string nm') := by rw [← hwd]; exact c0
          have d1 : wd.cell? ⟨bl, off + k * 4 + 1, none⟩ = some (.int .i64 sz') := by rw [← hwd]; exact c1
          have d2 : wd.cell? ⟨bl, off + k * 4 + 2, none⟩ = some (.int .i64 wt') := by rw [← hwd]; exact c2
          have d3 : wd.cell? ⟨bl, off + k * 4 + 3, none⟩ = some (.int .i64 fr') := by rw [← hwd]; exact c3
          have e0 : wd.cell? ⟨w.heap.size, 0, none⟩ = some (.string nm) := by rw [← hwd]; exact b0
          have e1 : wd.cell? ⟨w.heap.size, 1, none⟩ = some (.int .i64 sz) := by rw [← hwd]; exact b1
          have e2 : wd.cell? ⟨w.heap.size, 2, none⟩ = some (.int .i64 wt) := by rw [← hwd]; exact b2
          have e3 : wd.cell? ⟨w.heap.size, 3, none⟩ = some (.int .i64 fr) := by rw [← hwd]; exact b3
          have hbld : bl < wd.heap.size := by rw [← hwd]; exact hbl
          clear hwd hown hbel hBw c0 c1 c2 c3 b0 b1 b2 b3 hbl
          go_wp2_with (at_builtin; refine wpList_append_own _ rfl (.tmp 27) (.tmp 29) 22 rfl (w.heap.size + 1) 75 t0 _ 4 40 Tryz.underlying22 hi hz0 hz1 hz2 rfl (by decide) _ _ _ rfl (hownd.alloc _) ⟨wd.heap.size, 0, none⟩ 1 1 [.string nm, .int .i64 sz, .int .i64 wt, .int .i64 fr] rfl rfl (cells_new _ [.string nm, .int .i64 sz, .int .i64 wt, .int .i64 fr] _) ?b2 ?b3 ?b4 ?b5 ?bn)
          case b2 => intro u hu; simp at hu; rcases hu with rfl | rfl | rfl | rfl <;> rfl
          case b3 => unfold maxLen; omega
          case b4 => omega
          case b5 => simp; omega
          case bn =>
            intro v1 w5 hown1 hgrow1 _
            have hown5 : w5.ownsRow (w.heap.size + 1) 75 4 v1 (m + 1) (flatP (acc ++ [⟨nm, sz, wt, fr⟩])) := by rw [flatP_append]; exact hown1
            have hbel5 : Below (w.heap.size + 1) (w.alloc (bPl ⟨nm, sz, wt, fr⟩)) w5 := (hbeld.alloc hBd _).grown hgrow1 (by simp; omega) (fun g hg => (hownd.lt g hg).1)
            have hB5 : w.heap.size + 1 ≤ w5.heap.size := by have := hbel5.size; rw [World.size_alloc] at this; exact this
            obtain ⟨bl', off', eq5, hbl5, f0, f1, f2, f3⟩ := pool_at (HR.out.1.nx ((nx_alloc _ _).trans (hbel5.mono (by omega)))) HPk.out
            obtain ⟨rfl, rfl⟩ : bl = bl' ∧ off = off' := by simpa using eq5
            simp only at f0 f1 f2 f3
            obtain ⟨vo1, vc1, hv1, _⟩ := own_row hown5
            subst hv1
            clear hown1 hgrow1 hownd hbeld d0 d1 d2 d3 e0 e1 e2 e3 eq5
            go_wp2_with (at_builtin; refine wpList_append_own _ rfl (.tmp 31) (.tmp 36) 22 rfl (w.heap.size + 1) 75 t0 _ 4 40 Tryz.underlying22 hi hz0 hz1 hz2 rfl (by decide) _ _ _ rfl (hown5.alloc _) ⟨w5.heap.size, 0, none⟩ 1 1 [.string nm', .int .i64 sz', .int .i64 wt', .int .i64 fr'] rfl rfl (cells_new _ [.string nm', .int .i64 sz', .int .i64 wt', .int .i64 fr'] _) ?d2 ?d3 ?d4 ?d5 ?dn)
            case d2 => intro u hu; simp at hu; rcases hu with rfl | rfl | rfl | rfl <;> rfl
            case d3 => unfold maxLen; omega
            case d4 => omega
            case d5 => simp; omega
            case dn =>
              intro v' w6 hown' hgrow _
              have R : w6.ownsRow (w.heap.size + 1) 75 4 v' ((m + 1) + 1) (flatP ((acc ++ [⟨nm, sz, wt, fr⟩]) ++ [⟨nm', sz', wt', fr'⟩])) ∧ Below (w.heap.size + 1) (w.alloc (bPl ⟨nm, sz, wt, fr⟩)) w6 := by
                refine ⟨by rw [flatP_append]; exact hown', (hbel5.alloc hB5 _).grown hgrow (by simp; omega) (fun g hg => (hown5.lt g hg).1)⟩
              clear hown' hgrow hown5 hbel5
              go_wp2_with fail
              go_roundw
              case rel => exact ⟨k + 1, (m + 1) + 1, (acc ++ [⟨nm, sz, wt, fr⟩]) ++ [⟨nm', sz', wt', fr'⟩], true, by omega, by go_num, rfl, by have := HMK.out; simp at this ⊢; omega, ⟨HX.out, by simp [HS.out.2]⟩, R.1, R.2⟩
              case measure => simp [intOf]; omega
      · have HX : Hid (insP ⟨nm, sz, wt, fr⟩ ps = (acc ++ [⟨nm', sz', wt', fr'⟩]) ++ (if true = true then ps.drop (k + 1) else insP ⟨nm, sz, wt, fr⟩ (ps.drop (k + 1)))) := by
          show _ = _
          rw [HS.out.1]; simp only [if_true]
          rw [HD.out]; simp
        go_wp2_with fail
        go_quiet (fail)
        obtain ⟨wd, hwd⟩ : ∃ wd, wr.drewN nq = wd := ⟨_, rfl⟩
        rw [hwd]
        have hownd : wd.ownsRow (w.heap.size + 1) 75 4 (.slice vo m vc) m (flatP acc) := by rw [← hwd]; exact own_drewN hown nq
        have hbeld : Below (w.heap.size + 1) (w.alloc (bPl ⟨nm, sz, wt, fr⟩)) wd := by rw [← hwd]; exact below_drewN hbel nq
        have hBd : w.heap.size + 1 ≤ wd.heap.size := by rw [← hwd]; exact hBw
        have d0 : wd.cell? ⟨bl, off + k * 4, none⟩ = some (.string nm') := by rw [← hwd]; exact c0
        have d1 : wd.cell? ⟨bl, off + k * 4 + 1, none⟩ = some (.int .i64 sz') := by rw [← hwd]; exact c1
        have d2 : wd.cell? ⟨bl, off + k * 4 + 2, none⟩ = some (.int .i64 wt') := by rw [← hwd]; exact c2
        have d3 : wd.cell? ⟨bl, off + k * 4 + 3, none⟩ = some (.int .i64 fr') := by rw [← hwd]; exact c3
        have e0 : wd.cell? ⟨w.heap.size, 0, none⟩ = some (.string nm) := by rw [← hwd]; exact b0
        have e1 : wd.cell? ⟨w.heap.size, 1, none⟩ = some (.int .i64 sz) := by rw [← hwd]; exact b1
        have e2 : wd.cell? ⟨w.heap.size, 2, none⟩ = some (.int .i64 wt) := by rw [← hwd]; exact b2
        have e3 : wd.cell? ⟨w.heap.size, 3, none⟩ = some (.int .i64 fr) := by rw [← hwd]; exact b3
        have hbld : bl < wd.heap.size := by rw [← hwd]; exact hbl
        clear hwd hown hbel hBw c0 c1 c2 c3 b0 b1 b2 b3 hbl
        go_wp2_with (at_builtin; refine wpList_append_own _ rfl (.tmp 31) (.tmp 36) 22 rfl (w.heap.size + 1) 75 t0 _ 4 40 Tryz.underlying22 hi hz0 hz1 hz2 rfl (by decide) _ _ _ rfl (hownd.alloc _) ⟨wd.heap.size, 0, none⟩ 1 1 [.string nm', .int .i64 sz', .int .i64 wt', .int .i64 fr'] rfl rfl (cells_new _ [.string nm', .int .i64 sz', .int .i64 wt', .int .i64 fr'] _) ?c2 ?c3 ?c4 ?c5 ?cn)
        case c2 => intro u hu; simp at hu; rcases hu with rfl | rfl | rfl | rfl <;> rfl
        case c3 => unfold maxLen; omega
        case c4 => omega
        case c5 => simp; omega
        case cn =>
          intro v' w6 hown' hgrow _
          have R : w6.ownsRow (w.heap.size + 1) 75 4 v' (m + 1) (flatP (acc ++ [⟨nm', sz', wt', fr'⟩])) ∧ Below (w.heap.size + 1) (w.alloc (bPl ⟨nm, sz, wt, fr⟩)) w6 := by
            refine ⟨by rw [flatP_append]; exact hown', (hbeld.alloc hBd _).grown hgrow (by simp; omega) (fun g hg => (hownd.lt g hg).1)⟩
          clear hown' hgrow hownd hbeld
          go_wp2_with fail
          go_roundw
          case rel => exact ⟨k + 1, m + 1, acc ++ [⟨nm', sz', wt', fr'⟩], true, by omega, by go_num, rfl, by have := HMK.out; simp at this ⊢; omega, ⟨HX.out, by simp [HS.out.2]⟩, R.1, R.2⟩
          case measure => simp [intOf]; omega
    · have e9 : ps.drop k = [] := List.drop_of_length_le (by rw [HR.out.2]; omega)
      cases pl
      · have HX : Hid (insP ⟨nm, sz, wt, fr⟩ ps = acc ++ [⟨nm, sz, wt, fr⟩] ∧ (insP ⟨nm, sz, wt, fr⟩ ps).length = m + 1) := by
          have e : insP ⟨nm, sz, wt, fr⟩ ps = acc ++ [⟨nm, sz, wt, fr⟩] := by
            rw [HS.out.1, e9]; rfl
          exact ⟨e, by rw [e]; simp [HS.out.2]⟩
        clear e9
        go_wp2_with (at_builtin; refine wpList_append_own _ rfl (.tmp 40) (.tmp 42) 22 rfl (w.heap.size + 1) 75 t0 _ 4 40 Tryz.underlying22 hi hz0 hz1 hz2 rfl (by decide) _ _ _ rfl (hown.alloc _) ⟨wr.heap.size, 0, none⟩ 1 1 [.string nm, .int .i64 sz, .int .i64 wt, .int .i64 fr] rfl rfl (cells_new _ [.string nm, .int .i64 sz, .int .i64 wt, .int .i64 fr] _) ?e2 ?e3 ?e4 ?e5 ?en)
        case e2 => intro u hu; simp at hu; rcases hu with rfl | rfl | rfl | rfl <;> rfl
        case e3 => unfold maxLen; omega
        case e4 => omega
        case e5 => simp; omega
        case en =>
          intro v1 w5 hown1 hgrow1 _
          have R : w5.ownsRow w.heap.size 75 4 v1 (m + 1) (flatP (acc ++ [⟨nm, sz, wt, fr⟩])) ∧ Below w.heap.size w w5 := by
            refine ⟨own_mono (by rw [flatP_append]; exact hown1) (by omega), ?_⟩
            exact (nx_alloc _ _).trans (((hbel.alloc hBw _).grown hgrow1 (by simp; omega) (fun g hg => (hown.lt g hg).1)).mono (by omega))
          clear hown1 hgrow1 hown hbel
          go_wp2_with fail
          go_ret
          exact ⟨_, rfl, (by rw [HX.out.2, HX.out.1]; exact R.1), R.2⟩
      · have HX : Hid (insP ⟨nm, sz, wt, fr⟩ ps = acc ∧ (insP ⟨nm, sz, wt, fr⟩ ps).length = m) := by
          have e : insP ⟨nm, sz, wt, fr⟩ ps = acc := by
            rw [HS.out.1, e9]; simp
          exact ⟨e, by rw [e]; exact HS.out.2⟩
        have R := hideIt (own_mono hown (Nat.le_succ _))
        clear e9 hown hbel
        go_wp2_with fail
        go_ret
        exact ⟨_, rfl, (by rw [HX.out.2, HX.out.1]; exact R.out), HBW.out⟩
end Co
end Go.Proofs.YtohbonfngeblkaaGreat
