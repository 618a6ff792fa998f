
import Derived.Test.YtlndoeoniicijaaCpA
namespace Go.Proofs.Ytlndoeoniicijaa
open Go.RowKit
namespace Co

def fK (ps : List (Nat × Nat)) (k : Nat) : Option Nat := (ps.find? fun p => p.1 == k).map (·.2)
theorem fK_hit {ps : List (Nat × Nat)} {k j a b : Nat} (hd : ps.drop j = (a, b) :: ps.drop (j + 1)) (hs : fK (ps.drop j) k = fK ps k) (h : a = k) : fK ps k = some b := by
  rw [← hs, hd, fK, List.find?_cons]
  simp [h]
theorem fK_miss {ps : List (Nat × Nat)} {k j a b : Nat} (hd : ps.drop j = (a, b) :: ps.drop (j + 1)) (hs : fK (ps.drop j) k = fK ps k) (h : ¬ a = k) : fK (ps.drop (j + 1)) k = fK ps k := by
  have hh : (a == k) = false := by simpa using h
  rw [← hs, hd, fK, fK, List.find?_cons]
  simp only [hh]
def pairsOf (l : Ln) : List (Nat × Nat) := if l.kind = 1 then [] else l.sets
theorem pairs_keys (l : Ln) : keysOf l = (pairsOf l).map (·.1) := by
  unfold keysOf pairsOf
  split <;> rfl
theorem pairs_vals {l : Ln} {j a b : Nat} (h : (pairsOf l)[j]? = some (a, b)) : (valsOf l)[j]? = some b := by
  unfold pairsOf at h
  split at h
  · simp at h
  · simp [valsOf, h]
theorem pairs_len (l : Ln) : (pairsOf l).length = (keysOf l).length := by rw [pairs_keys, List.length_map]
theorem pairs_le (l : Ln) : (pairsOf l).length ≤ l.sets.length := by
  unfold pairsOf
  split <;> simp
/-- the first number of a key in the lines of some indices -/
def vI (L : List Ln) (k : Nat) : List Nat → Int
  | [] => plainN k
  | j :: r => match (L[j]?).bind (fun l => fK (pairsOf l) k) with | some n => (n : Int) | none => vI L k r

set_option maxRecDepth 20000 in
set_option maxHeartbeats 4000000 in
theorem value_any (i0 key : Nat) (ao : Option Addr) (cap m : Nat) (ls : List RL) (w : World) (hl : RLinesAt w (.slice ao m cap) ls) (hm : ls.length = m) (hm1 : m ≤ 1001) (hi0 : i0 < m) (hb : AllB (bareR ls)) (hsl : ∀ l ∈ bareR ls, l.sets.length ≤ 1001) :
    Calls Try.prog 31 #[.slice ao m cap, .int .i64 (i0 : Int), .int .i64 (key : Int)] w fun e w' => e = .returned (.int .i64 (vI (bareR ls) key (i0 :: chI (bareR ls) m i0))) ∧ Below w.heap.size w w' := by
  obtain ⟨t0, hi, hz0, hz1, hz2⟩ := info_parts info_int
  obtain ⟨W1, hW1⟩ : ∃ W1, W1 = w.alloc (.cells #[.int .i64 (i0 : Int)] 3) := ⟨_, rfl⟩
  have hb1 : Below w.heap.size w W1 := by rw [hW1]; exact nx_alloc _ _
  have hown1 : W1.ownsRow w.heap.size 3 1 (.slice (some ⟨w.heap.size, 0, none⟩) 1 1) 1 (ints [i0]) := by
    rw [hW1]
    refine ⟨rfl, .inr ⟨w.heap.size, 1, #[.int .i64 (i0 : Int)], rfl, Nat.le_refl _, heap_alloc_at' _ _ rfl, Nat.le_refl _, ?_, ?_, ?_⟩⟩
    all_goals first | rfl | simp [maxLen] | (unfold maxLen; omega)
  have HCH := hideIt (chain_any i0 m ao cap m ls W1 (hl.nx hb1) hm hm1 hi0 (by omega) hb)
  have hcl := chI_len (bareR ls) m i0
  obtain ⟨ch, hch⟩ : ∃ ch, chI (bareR ls) m i0 = ch := ⟨_, rfl⟩
  rw [hch] at HCH hcl
  rw [hch]
  have HW : Hid (W1 = w.alloc (.cells #[.int .i64 (i0 : Int)] 3) ∧ Below w.heap.size w W1 ∧ W1.ownsRow w.heap.size 3 1 (.slice (some ⟨w.heap.size, 0, none⟩) 1 1) 1 (ints [i0]) ∧ W1.heap.size = w.heap.size + 1) := ⟨hW1, hb1, hown1, by rw [hW1]; simp⟩
  have HL : Hid (RLinesAt w (.slice ao m cap) ls ∧ ls.length = m ∧ (∀ l ∈ bareR ls, l.sets.length ≤ 1001) ∧ ∀ j ∈ i0 :: ch, j < m) := ⟨hl, hm, hsl, by
    intro j hj
    rcases List.mem_cons.1 hj with h | h
    · rw [h]; exact hi0
    · have := chI_lt hb m i0 j (by rw [hch]; exact h)
      rw [bareR_len, hm] at this
      exact this⟩
  have HPL := hideIt (plain_any key)
  clear hl hm hb hsl hW1 hb1 hown1 hch hi0
  obtain ⟨R, hR⟩ : ∃ R, vI (bareR ls) key (i0 :: ch) = R := ⟨_, rfl⟩
  rw [hR]
  have HR := hideIt hR
  clear hR
  go_enter Try.func31, Try.ntmps31
  go_upto_region 2 with fail
  rw [← HW.out.1]
  go_cut [7] (fun v wc => ∃ (vo : Option Addr) (n2 vc : Nat), v = .slice vo n2 vc ∧ n2 ≤ 1002 ∧ Hid (RowAt wc (.slice vo n2 vc) n2 (ints (i0 :: ch)) ∧ (i0 :: ch).length = n2 ∧ Below w.heap.size w wc))
  case first =>
    go_wp2_with fail
    refine HCH.out.mono ?_
    rintro e w2 ⟨co, cc, rfl, hown2, hb2⟩
    obtain ⟨q, hq⟩ : ∃ q, ch.length = q := ⟨_, rfl⟩
    rw [hq] at hown2 hcl ⊢
    have hown12 := own_below HW.out.2.2.1 hb2
    have hB : w.heap.size ≤ w2.heap.size := Nat.le_trans HW.out.2.1.size hb2.size
    have hbel2 := nx_trans HW.out.2.1 hb2
    rcases hown2.2 with ⟨hv, hx⟩ | ⟨g, cap', cur, hv, hbg, hg, _⟩
    · have hq0 : q = 0 := by simp only [Value.slice.injEq] at hv; omega
      have HC : Hid (ch = []) := List.eq_nil_of_length_eq_zero (by rw [hq, hq0])
      rw [hv]
      clear hq hown2 hv hx hq0
      go_wp2_with fail
      go_meet
      exact ⟨_, 1, 1, rfl, by omega, by rw [HC.out]; exact own_row hown12, by rw [HC.out]; rfl, hbel2⟩
    · have hcells := hown2.cells (g := g) (by rw [hv]; rfl)
      rw [hv]
      have hvl := hv
      simp only [Value.slice.injEq] at hvl
      have HQ := hideIt hq
      clear hq hg hvl hv
      go_wp2_with (at_builtin; refine wpList_append_own _ rfl (.tmp 13) (.tmp 18) 91 rfl w.heap.size 3 t0 _ 1 8 Try.underlying91 hi hz0 hz1 hz2 rfl (by decide) _ _ _ rfl hown12 ⟨g, 0, none⟩ q cap' (ints ch) rfl (by rw [ints_len, HQ.out]; omega) hcells (by intro u hu; obtain ⟨x, _, rfl⟩ := List.mem_map.1 hu; rfl) (by unfold maxLen; omega) (by omega) hB ?next)
      case next =>
        intro v' w6 hown' hgrow _
        obtain ⟨vo6, vc6, hv6, _⟩ := own_row hown'
        subst hv6
        have HX : Hid (RowAt w6 (.slice vo6 (1 + q) vc6) (1 + q) (ints (i0 :: ch)) ∧ (i0 :: ch).length = 1 + q ∧ Below w.heap.size w w6) :=
          ⟨own_row hown', by simp [HQ.out]; omega, hbel2.grown hgrow hB (fun g hg => (hown12.lt g hg).1)⟩
        clear hown' hgrow hown12 hbel2 hcells
        go_wp2_with fail
        go_meet
        exact ⟨vo6, 1 + q, vc6, rfl, by omega, HX.out⟩
  case rest =>
    obtain ⟨vo, n2, vc, rfl, hn2, HV⟩ := hcut
    obtain ⟨al, hal⟩ : ∃ al, i0 :: ch = al := ⟨_, rfl⟩
    rw [hal] at HV HR HL
    clear hal HCH HW hcl
    go_wp2_with fail
    go_loopw [8] (fun c wr => ∃ (k : Nat), k ≤ n2 ∧ c = .int .i64 k ∧ Hid (vI (bareR ls) key (al.drop k) = R) ∧ Hid (Below w.heap.size w wr ∧ RowAt wr (.slice vo n2 vc) n2 (ints al))) (fun c _ => n2 - (intOf c).toNat)
    case atStart => exact ⟨0, Nat.zero_le _, rfl, HR.out, HV.out.2.2, HV.out.1⟩
    case round =>
      obtain ⟨k, hk, rfl, HS, HBW⟩ := hrel
      by_cases hlt : k < n2
      · obtain ⟨a, ha⟩ : ∃ a, al[k]? = some a := ⟨_, List.getElem?_eq_getElem (by rw [HV.out.2.1]; exact hlt)⟩
        obtain ⟨bl, off, hvo, hbl, hca⟩ := ints_row HBW.out.2 ha
        have ham : a < m := HL.out.2.2.2 a (List.mem_of_getElem? ha)
        obtain ⟨⟨l, kv, vv⟩, hp⟩ : ∃ p, ls[a]? = some p := ⟨_, List.getElem?_eq_getElem (by rw [HL.out.2.1]; exact ham)⟩
        obtain ⟨bl2, off2, ko, kc, vo2, vc2, hao, hbl2, _, _, hrk, hrv, c0, c1, c2, c3, c4, c5⟩ := (HL.out.1.nx HBW.out.1).at hp
        have hsl1 : l.sets.length ≤ 1001 := HL.out.2.2.1 _ (List.mem_of_getElem? (bareR_at hp))
        have HD : Hid (vI (bareR ls) key (al.drop k) = match fK (pairsOf l) key with | some n => (n : Int) | none => vI (bareR ls) key (al.drop (k + 1))) := by
          show _ = _
          rw [drop_at ha, vI, bareR_at hp]
          rfl
        obtain ⟨ps, hps⟩ : ∃ ps, pairsOf l = ps := ⟨_, rfl⟩
        rw [hps] at HD
        have hlk : (keysOf l).length = ps.length := by rw [← hps, pairs_len]
        have hlv : ps.length ≤ l.sets.length := by rw [← hps]; exact pairs_le l
        rw [hlk] at hrk c3
        rw [pairs_keys, hps] at hrk
        obtain ⟨np, hnp⟩ : ∃ np, ps.length = np := ⟨_, rfl⟩
        obtain ⟨nv, hnv⟩ : ∃ nv, l.sets.length = nv := ⟨_, rfl⟩
        rw [hnp] at hrk c3 hlv
        rw [hnv] at hrv c4 hlv hsl1
        have hlti : (k : Int) < (n2 : Int) := by omega
        have hami : (a : Int) < (m : Int) := by omega
        obtain ⟨lw, hlw⟩ : ∃ lw, kwK l.kind = lw := ⟨_, rfl⟩
        rw [hlw] at c0
        obtain ⟨W2, hW2⟩ : ∃ W2, W2 = wr.alloc (bRL lw l.name l.frm ko np kc vo2 nv vc2 (l.place : Int)) := ⟨_, rfl⟩
        have hb2 : Below wr.heap.size wr W2 := by rw [hW2]; exact nx_alloc _ _
        have HP : Hid (RowAt W2 (.slice ko np kc) np (ints (ps.map (·.1))) ∧ RowAt W2 (.slice vo2 nv vc2) nv (ints (valsOf l)) ∧ ps.length = np ∧ pairsOf l = ps ∧ Below w.heap.size w W2 ∧ RowAt W2 (.slice vo n2 vc) n2 (ints al)) :=
          ⟨hrk.nx hb2, hrv.nx hb2, hnp, hps, nx_trans HBW.out.1 hb2, HBW.out.2.nx hb2⟩
        have H2 : Hid (W2 = wr.alloc (bRL lw l.name l.frm ko np kc vo2 nv vc2 (l.place : Int))) := hW2
        obtain ⟨e0, e1, e2, e3, e4, e5, ez⟩ := blk6 (Below.refl W2.heap.size W2) (g := wr.heap.size) (by rw [hW2]; simp) (by rw [hW2]; exact heap_alloc_at' _ _ rfl)
        subst hvo hao
        clear ha hp hrk hrv hps hlk hnp hnv hlw hb2 hW2
        go_wp2_with fail
        rw [← H2.out]
        clear c0 c1 c2 c3 c4 c5 hca
        go_loop [10] (fun jv => ∃ (j : Nat), j ≤ np ∧ jv = .int .i64 j ∧ Hid (fK (ps.drop j) key = fK ps key)) (fun jv => np - (intOf jv).toNat)
        case atStart => exact ⟨0, Nat.zero_le _, rfl, rfl⟩
        case round =>
          obtain ⟨j, hj, rfl, HJ⟩ := hrel
          by_cases hjl : j < np
          · obtain ⟨⟨x, y⟩, hxy⟩ : ∃ p, ps[j]? = some p := ⟨_, List.getElem?_eq_getElem (by rw [HP.out.2.2.1]; exact hjl)⟩
            obtain ⟨bl3, off3, hko, hbl3, hcx⟩ := ints_row HP.out.1 (show (ps.map (·.1))[j]? = some x by simp [hxy])
            obtain ⟨bl4, off4, hvo2, hbl4, hcy⟩ := ints_row HP.out.2.1 (pairs_vals (show (pairsOf l)[j]? = some (x, y) by rw [HP.out.2.2.2.1]; exact hxy))
            have HDJ : Hid (ps.drop j = (x, y) :: ps.drop (j + 1)) := drop_at hxy
            have hjli : (j : Int) < (np : Int) := by omega
            have hjlv : (j : Int) < (nv : Int) := by omega
            subst hko hvo2
            clear hxy
            by_cases hxk : x = key
            · have hxb : ((x : Int) == (key : Int)) = true := by simp [hxk]
              have HX : Hid ((y : Int) = R) := by
                show _ = _
                rw [← HS.out, HD.out, fK_hit HDJ.out HJ.out hxk]
              clear hxk
              go_wp2_with fail
              go_ret
              exact ⟨ret_i HX.out, HP.out.2.2.2.2.1⟩
            · have hxb : ((x : Int) == (key : Int)) = false := by simp; omega
              have HX := hideIt (fK_miss HDJ.out HJ.out hxk)
              clear hxk
              go_wp2_with fail
              go_round
              case rel => exact ⟨j + 1, by omega, by go_num, HX.out⟩
              case measure => simp [intOf]; omega
          · have HX : Hid (vI (bareR ls) key (al.drop (k + 1)) = R) := by
              show _ = _
              have e : fK ps key = none := by
                rw [← HJ.out, List.drop_of_length_le (by rw [HP.out.2.2.1]; omega)]; rfl
              rw [← HS.out, HD.out, e]
            go_wp2_with fail
            go_roundw
            case rel => exact ⟨k + 1, by omega, by go_num, HX.out, HP.out.2.2.2.2.1, HP.out.2.2.2.2.2⟩
            case measure => simp [intOf]; omega
      · have HX : Hid (plainN key = R) := by
          show _ = _
          rw [← HS.out, List.drop_of_length_le (by rw [HV.out.2.1]; omega)]; rfl
        have HB : Hid (Below w.heap.size w wr) := HBW.out.1
        go_wp2_with fail
        refine (HPL.out _).mono ?_; rintro e w2 ⟨rfl, hw⟩
        rw [hw]
        clear hw
        go_wp2_with fail
        go_ret
        exact ⟨ret_i HX.out, HB.out⟩
end Co
end Go.Proofs.Ytlndoeoniicijaa
