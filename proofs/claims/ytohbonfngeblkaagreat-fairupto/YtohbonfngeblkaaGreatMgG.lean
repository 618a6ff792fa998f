import Derived.Test.YtohbonfngeblkaaGreatMgF
namespace Go.Proofs.YtohbonfngeblkaaGreat
open Go.RowKit
namespace Co
def chv (key : Nat) (other : Int) : List (Ln × Value) → Int
  | [] => other
  | p :: r => match valL p.1.sets key with | some n => n | none => chv key other r
def valOf (key : Nat) (other : Int) (ss : List (Nat × Nat)) (ch : List (Ln × Value)) : Int := match valL ss key with | some n => n | none => chv key other ch
set_option maxRecDepth 20000 in
set_option maxHeartbeats 2000000 in
theorem valueOf_any (key : Nat) (other : Int) (x0 x1 : Int) (s2 s3 : ByteArray) (so : Option Addr) (sc m : Nat) (ss : List (Nat × Nat)) (co : Option Addr) (cc q : Nat) (ch : List (Ln × Value)) (w : World)
    (hr : RowAt w (.slice so m sc) m (flatS ss)) (hm : ss.length = m) (hm1 : m ≤ 1001) (hl : LinesAt w (.slice co q cc) ch) (hq : ch.length = q) (hq1 : q ≤ 1001) (hsl : ∀ p ∈ ch, p.1.sets.length ≤ 1001) :
    Calls Tryz.prog 95 #[.string (wordB key), lnA' x0 x1 s2 s3 so m sc, .slice co q cc, .int .i64 other] w fun e w' => e = .returned (.int .i64 (valOf key other ss ch)) ∧ Below w.heap.size w w' := by
  have HNO := hideIt (numberOf_any key x0 x1 s2 s3 so sc m ss (w.alloc (bLn x0 x1 s2 s3 so m sc)) (hr.nx (nx_alloc _ _)) hm hm1)
  have HL : Hid (LinesAt w (.slice co q cc) ch ∧ ch.length = q ∧ ∀ p ∈ ch, p.1.sets.length ≤ 1001) := ⟨hl, hq, hsl⟩
  clear hr hm hl hq hsl
  cases hv : valL ss key with
  | some n =>
    have HX : Hid (valOf key other ss ch = n) := by show _ = _; rw [valOf, hv]
    have hN : valN ss key = n := by rw [valN, hv]
    have hS : (valL ss key).isSome = true := by rw [hv]; rfl
    clear hv
    go_enter Tryz.func95, Tryz.ntmps95
    go_wp2_with fail
    refine HNO.out.mono ?_; rintro e w1 ⟨rfl, hb1⟩
    rw [hN, hS]
    go_wp2_with fail
    go_ret
    exact ⟨ret_i HX.out.symm, nx_trans (nx_alloc _ _) hb1⟩
  | none =>
    have HX : Hid (valOf key other ss ch = chv key other ch) := by show _ = _; rw [valOf, hv]
    have hN : valN ss key = 0 := by rw [valN, hv]
    have hS : (valL ss key).isSome = false := by rw [hv]; rfl
    clear hv
    go_enter Tryz.func95, Tryz.ntmps95
    go_wp2_with fail
    refine HNO.out.mono ?_; rintro e w1 ⟨rfl, hb1⟩
    rw [hN, hS]
    have HB1 : Hid (Below w.heap.size w w1) := nx_trans (nx_alloc _ _) hb1
    clear hb1 hN hS HNO
    go_wp2_with fail
    go_loopw [9, 10, 11] (fun x ok i wr => ∃ (k : Nat) (a : Int), k ≤ q ∧ i = .int .i64 k ∧ x = .int .i64 a ∧ ok = .bool false ∧ Hid (chv key other (ch.drop k) = chv key other ch) ∧ Below w.heap.size w wr) (fun _ _ i _ => q - (intOf i).toNat)
    case atStart => exact ⟨0, 0, Nat.zero_le _, rfl, rfl, rfl, rfl, HB1.out⟩
    case round =>
      obtain ⟨k, a, hk, rfl, rfl, rfl, HS, hbel⟩ := hrel
      by_cases hlt : k < q
      · obtain ⟨⟨l, sv⟩, hp⟩ : ∃ p, ch[k]? = some p := ⟨_, List.getElem?_eq_getElem (by rw [HL.out.2.1]; exact hlt)⟩
        obtain ⟨bl, off, so', sc', hao, hbl, hsv, hrow, c0, c1, c2, c3, c4⟩ := (HL.out.1.nx hbel).at hp
        have HD : Hid (ch.drop k = (l, sv) :: ch.drop (k + 1)) := drop_at hp
        have hlti : (k : Int) < (q : Int) := by omega
        have HNO2 := hideIt (numberOf_any key l.place l.kind l.name l.frm so' sc' l.sets.length l.sets wr hrow rfl (HL.out.2.2 _ (List.mem_of_getElem? hp)))
        subst hao
        clear hp hsv hrow
        cases hv : valL l.sets key with
        | some n =>
          have HY : Hid (chv key other ch = n) := by show _ = _; rw [← HS.out, HD.out, chv, hv]
          have hN : valN l.sets key = n := by rw [valN, hv]
          have hS : (valL l.sets key).isSome = true := by rw [hv]; rfl
          clear hv
          go_wp2_with fail
          refine HNO2.out.mono ?_; rintro e w2 ⟨rfl, hb2⟩
          rw [hN, hS]
          go_wp2_with fail
          go_ret
          exact ⟨ret_i (by rw [HX.out, HY.out]), nx_trans hbel hb2⟩
        | none =>
          have HY : Hid (chv key other (ch.drop (k + 1)) = chv key other ch) := by show _ = _; rw [← HS.out, HD.out, chv, hv]
          have hN : valN l.sets key = 0 := by rw [valN, hv]
          have hS : (valL l.sets key).isSome = false := by rw [hv]; rfl
          clear hv
          go_wp2_with fail
          refine HNO2.out.mono ?_; rintro e w2 ⟨rfl, hb2⟩
          rw [hN, hS]
          have hb3 := nx_trans hbel hb2
          clear hbel hb2 c0 c1 c2 c3 c4
          go_wp2_with fail
          go_roundw
          case rel => exact ⟨k + 1, 0, by omega, by go_num, rfl, rfl, HY.out, hb3⟩
          case measure => simp [intOf]; omega
      · go_wp2_with fail
        go_ret
        exact ⟨ret_i (by rw [HX.out, ← HS.out, List.drop_of_length_le (by rw [HL.out.2.1]; omega)]; rfl), hbel⟩
structure Pl where
  nm : ByteArray
  sz : Int
  wt : Int
  fr : Int
def flatP : List Pl → List Value
  | [] => []
  | p :: r => .string p.nm :: .int .i64 p.sz :: .int .i64 p.wt :: .int .i64 p.fr :: flatP r
theorem flatP_append : ∀ a b : List Pl, flatP (a ++ b) = flatP a ++ flatP b
  | [], b => rfl
  | p :: a, b => by simp [flatP, flatP_append a b]
theorem flatP_at : ∀ (ps : List Pl) (i : Nat) (p : Pl), ps[i]? = some p → (flatP ps)[i * 4]? = some (.string p.nm) ∧ (flatP ps)[i * 4 + 1]? = some (.int .i64 p.sz) ∧ (flatP ps)[i * 4 + 2]? = some (.int .i64 p.wt) ∧ (flatP ps)[i * 4 + 3]? = some (.int .i64 p.fr)
  | [], i, p, h => by simp at h
  | q :: r, 0, p, h => by simp at h; subst h; simp [flatP]
  | q :: r, i + 1, p, h => by
    have ih := flatP_at r i p (by simpa using h)
    have e0 : (i + 1) * 4 = i * 4 + 4 := by omega
    rw [e0]
    simp only [flatP]
    exact ih
theorem pool_at {w : World} {ao : Option Addr} {n m cap : Nat} {ps : List Pl} (h : RowAt w (.slice ao n cap) m (flatP ps)) {k : Nat} {p : Pl} (hk : ps[k]? = some p) :
    ∃ b off, ao = some ⟨b, off, none⟩ ∧ b < w.heap.size ∧ w.cell? ⟨b, off + k * 4, none⟩ = some (.string p.nm) ∧ w.cell? ⟨b, off + k * 4 + 1, none⟩ = some (.int .i64 p.sz) ∧ w.cell? ⟨b, off + k * 4 + 2, none⟩ = some (.int .i64 p.wt) ∧ w.cell? ⟨b, off + k * 4 + 3, none⟩ = some (.int .i64 p.fr) := by
  obtain ⟨f0, f1, f2, f3⟩ := flatP_at ps k p hk
  obtain ⟨b, off, rfl, hb, g0⟩ := h.at f0
  have hin : ∀ j x, (flatP ps)[k * 4 + j]? = some x → w.cell? ⟨b, off + k * 4 + j, none⟩ = some x := by
    intro j x hx
    obtain ⟨b', off', e, _, g⟩ := h.at hx
    obtain ⟨rfl, rfl⟩ : b = b' ∧ off = off' := by simpa using e
    rw [Nat.add_assoc]; exact g
  exact ⟨b, off, rfl, hb, g0, hin 1 _ f1, hin 2 _ f2, hin 3 _ f3⟩
abbrev plA (p : Pl) : Value := .agg #[.string p.nm, .int .i64 p.sz, .int .i64 p.wt, .int .i64 p.fr]
def insP (p : Pl) : List Pl → List Pl
  | [] => [p]
  | q :: r => if lt p.nm q.nm = true then p :: q :: r else q :: insP p r
theorem insP_yes {p q : Pl} {r : List Pl} (h : lt p.nm q.nm = true) : insP p (q :: r) = p :: q :: r := by rw [insP, if_pos h]
theorem insP_no {p q : Pl} {r : List Pl} (h : lt p.nm q.nm = false) : insP p (q :: r) = q :: insP p r := by rw [insP, if_neg (by simp [h])]
theorem insP_len (p : Pl) : ∀ ps : List Pl, (insP p ps).length = ps.length + 1
  | [] => rfl
  | q :: r => by
    rw [insP]
    split
    · rfl
    · simp [insP_len p r]
theorem info_pl : (Tryz.prog.info? 75).map (fun i => (i.zero, i.size, i.bytes)) = some (some (.agg #[.string ⟨#[]⟩, .int .i64 0, .int .i64 0, .int .i64 0]), 4, 40) := by kernel_rfl
end Co
end Go.Proofs.YtohbonfngeblkaaGreat
