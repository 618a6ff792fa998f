import Derived.Test.YtohbonfngeblkaaGreatMgA
namespace Go.Proofs.YtohbonfngeblkaaGreat
open Go.RowKit
namespace Co
theorem split_nl (s : ByteArray) (w : World) (hs : s.size ≤ 1000) :
    Calls Tryz.prog 90 #[.string s, .int .u8 10] w fun e w' => ∃ ao cap, e = .returned (.slice ao (pieces s 10).length cap) ∧ RowAt w' (.slice ao (pieces s 10).length cap) (pieces s 10).length (strs (pieces s 10)) ∧ Below w.heap.size w w' :=
  (show Calls Tryz.prog 90 #[.string s, .int .u8 10] w _ from split_any s 10 w hs).mono (by
    rintro e w' ⟨v, rfl, h, hb⟩
    have hr := own_row h
    obtain ⟨ao, cap, rfl, h1⟩ := own_row h
    exact ⟨ao, cap, rfl, hr, hb⟩)
theorem split_bl (s : ByteArray) (w : World) (hs : s.size ≤ 1000) :
    Calls Tryz.prog 90 #[.string s, .int .u8 32] w fun e w' => ∃ ao cap, e = .returned (.slice ao (pieces s 32).length cap) ∧ RowAt w' (.slice ao (pieces s 32).length cap) (pieces s 32).length (strs (pieces s 32)) ∧ Below w.heap.size w w' :=
  (show Calls Tryz.prog 90 #[.string s, .int .u8 32] w _ from split_any s 32 w hs).mono (by
    rintro e w' ⟨v, rfl, h, hb⟩
    have hr := own_row h
    obtain ⟨ao, cap, rfl, h1⟩ := own_row h
    exact ⟨ao, cap, rfl, hr, hb⟩)
theorem ret_slc {a : Option Addr} {n m c : Nat} (h : n = m) : Ending.returned (.slice a n c) = .returned (.slice a m c) := by rw [h]
def notE (p : ByteArray) : Bool := !p.toList.isEmpty
def flds (s : ByteArray) : List ByteArray := (pieces s 32).filter notE
theorem flds_len (s : ByteArray) : (flds s).length ≤ s.size + 1 := Nat.le_trans (List.length_filter_le _ _) (pieces_len s 32)
theorem flds_small (s : ByteArray) : ∀ p ∈ flds s, p.size ≤ s.size := fun p h => pieces_small s 32 p (List.mem_filter.1 h).1
theorem filt_yes (l : List ByteArray) (k : Nat) (p : ByteArray) (h : l[k]? = some p) (hp : p.toList.isEmpty = false) : (l.take (k + 1)).filter notE = (l.take k).filter notE ++ [p] := by
  obtain ⟨hk, rfl⟩ := List.getElem?_eq_some_iff.1 h
  rw [List.take_succ_eq_append_getElem hk, List.filter_append]
  simp [notE, hp]
theorem filt_no (l : List ByteArray) (k : Nat) (p : ByteArray) (h : l[k]? = some p) (hp : p.toList.isEmpty = true) : (l.take (k + 1)).filter notE = (l.take k).filter notE := by
  obtain ⟨hk, rfl⟩ := List.getElem?_eq_some_iff.1 h
  rw [List.take_succ_eq_append_getElem hk, List.filter_append]
  simp [notE, hp]
theorem RowAt.at {w : World} {ao : Option Addr} {n m cap : Nat} {cs : List Value} (h : RowAt w (.slice ao n cap) m cs) {j : Nat} {x : Value} (hx : cs[j]? = some x) :
    ∃ b off, ao = some ⟨b, off, none⟩ ∧ b < w.heap.size ∧ w.cell? ⟨b, off + j, none⟩ = some x := by
  obtain ⟨ao', cap', e, _, h⟩ := h
  simp only [Value.slice.injEq] at e
  obtain ⟨rfl, _, _⟩ := e
  rcases h with h | ⟨b, off, h1, h2, h3⟩
  · subst h; simp at hx
  · exact ⟨b, off, h1, h2, h3 j x hx⟩
set_option maxHeartbeats 1000000 in
theorem fieldsOf_any (s : ByteArray) (w : World) (hs : s.size ≤ 1000) :
    Calls Tryz.prog 91 #[.string s] w fun e w' => ∃ ao cap, e = .returned (.slice ao (flds s).length cap) ∧ RowAt w' (.slice ao (flds s).length cap) (flds s).length (strs (flds s)) ∧ Below w.heap.size w w' := by
  obtain ⟨i0, hi, hz0, hz1, hz2⟩ := info_parts info_str
  go_enter Tryz.func91, Tryz.ntmps91
  go_wp2_with fail
  refine (split_bl s _ hs).mono ?_; rintro e w1 ⟨pa, pc, rfl, hp, hb1⟩
  have hlen := pieces_len s 32
  obtain ⟨ps, hps⟩ : ∃ ps, pieces s 32 = ps := ⟨_, rfl⟩
  rw [hps] at hp hlen ⊢
  obtain ⟨n, hn⟩ : ∃ n, ps.length = n := ⟨_, rfl⟩
  rw [hn] at hp hlen ⊢
  have HP : Hid (RowAt w1 (.slice pa n pc) n (strs ps) ∧ ps.length = n ∧ pieces s 32 = ps) := ⟨hp, hn, hps⟩
  have HB1 : Hid (Below w.heap.size w w1) := hb1
  have hz1' : w.heap.size ≤ w1.heap.size := hb1.size
  clear hp hn hps hb1
  go_wp2_with fail
  go_loopw [4, 5] (fun v i wr => ∃ (k m : Nat) (acc : List ByteArray), k ≤ n ∧ i = .int .i64 k ∧ m ≤ k ∧ Hid ((ps.take k).filter notE = acc ∧ acc.length = m) ∧ wr.ownsRow w1.heap.size 9 1 v m (strs acc) ∧ Below w1.heap.size w1 wr) (fun _ i _ => n - (intOf i).toNat)
  case atStart => exact ⟨0, 0, [], Nat.zero_le _, rfl, Nat.le_refl _, ⟨rfl, rfl⟩, World.ownsRow_made w1 #[] 0 (Nat.le_refl _) (Nat.zero_le _) rfl, nx_alloc _ _⟩
  case round =>
    obtain ⟨k, m, acc, hk, rfl, hm, HS, hown, hbel⟩ := hrel
    have hBw : w1.heap.size ≤ wr.heap.size := hbel.size
    by_cases hlt : k < n
    · obtain ⟨p, hpk⟩ : ∃ p, ps[k]? = some p := ⟨_, List.getElem?_eq_getElem (by rw [HP.out.2.1]; exact hlt)⟩
      obtain ⟨bl, off, rfl, hbl, hc⟩ := (HP.out.1.nx hbel).at (strs_at hpk)
      have HK : Hid (ps[k]? = some p) := hpk
      clear hpk
      cases he : p.toList.isEmpty
      · go_wp2_with (at_builtin; refine wpList_append_own _ rfl (.tmp 20) (.tmp 25) 96 rfl w1.heap.size 9 i0 (.string ⟨#[]⟩) 1 16 Tryz.underlying96 hi hz0 hz1 hz2 rfl (by decide) _ _ _ rfl (hown.alloc _) ⟨wr.heap.size, 0, none⟩ 1 1 [.string p] rfl rfl (cell_one_new _ _ _) ?c2 ?c3 ?c4 ?c5 ?next)
        case c2 => intro u hu; simp at hu; subst hu; rfl
        case c3 => unfold maxLen; omega
        case c4 => omega
        case c5 => simp; omega
        case next =>
          intro v' w2 hown' hgrow _
          have R : w2.ownsRow w1.heap.size 9 1 v' (m + 1) (strs (acc ++ [p])) ∧ Below w1.heap.size w1 w2 := by
            refine ⟨by simpa [strs] using hown', (hbel.alloc hBw _).grown hgrow (by simp; omega) (fun g hg => (hown.lt g hg).1)⟩
          clear hown' hgrow hown hbel
          go_wp2_with fail
          go_roundw
          case rel => exact ⟨k + 1, m + 1, acc ++ [p], by omega, by go_num, by omega, ⟨(by rw [filt_yes ps k p HK.out he, HS.out.1]), by simp [HS.out.2]⟩, R.1, R.2⟩
          case measure => simp [intOf]; omega
      · go_wp2_with fail
        go_roundw
        case rel => exact ⟨k + 1, m, acc, by omega, by go_num, by omega, ⟨(by rw [filt_no ps k p HK.out he, HS.out.1]), HS.out.2⟩, hown, hbel⟩
        case measure => simp [intOf]; omega
    · have HF : Hid (flds s = acc ∧ (flds s).length = m) := by
        have e : flds s = acc := by rw [flds, HP.out.2.2, ← HS.out.1, List.take_of_length_le (by rw [HP.out.2.1]; omega)]
        exact ⟨e, by rw [e]; exact HS.out.2⟩
      have hr := own_row hown
      obtain ⟨ao, cap, rfl, _⟩ := own_row hown
      have HR : Hid (RowAt wr (.slice ao m cap) m (strs acc) ∧ Below w.heap.size w wr) := ⟨hr, nx_trans HB1.out hbel⟩
      clear hr hown hbel
      go_wp2_with fail
      go_ret
      exact ⟨ao, cap, ret_slc HF.out.2.symm, (by rw [HF.out.2, HF.out.1]; exact HR.out.1), HR.out.2⟩
end Co
end Go.Proofs.YtohbonfngeblkaaGreat
namespace Go.Proofs.YtohbonfngeblkaaGreat
open Go.RowKit
namespace Co
def digs (l : List UInt8) : Bool := l.all fun c => 48 ≤ c && c ≤ 57
def numV (l : List UInt8) : Nat := l.foldl (fun a c => a * 10 + (c.toNat - 48)) 0
def isNum (s : ByteArray) : Bool := decide (1 ≤ s.size) && decide (s.size ≤ 4) && digs s.data.toList
def numF (s : ByteArray) : Option Nat := if isNum s then some (numV s.data.toList) else none
theorem numV_snoc (l : List UInt8) (c : UInt8) : numV (l ++ [c]) = numV l * 10 + (c.toNat - 48) := by simp [numV]
theorem digs_snoc (s : ByteArray) (k : Nat) (h : k < s.size) (hl : digs (s.data.toList.take k) = true) (h1 : (48 : Int) ≤ (s[k].toNat : Int)) (h2 : (s[k].toNat : Int) ≤ 57) :
    digs (s.data.toList.take (k + 1)) = true := by
  rw [take_snoc s k h]
  unfold digs at *
  rw [List.all_append, hl]
  simp [UInt8.le_iff_toNat_le]
  omega
theorem digs_bad (s : ByteArray) (k : Nat) (h : k < s.size) (hb : (s[k].toNat : Int) < 48 ∨ 57 < (s[k].toNat : Int)) : isNum s = false := by
  have hm : s[k] ∈ s.data.toList := by
    rw [← List.take_append_drop (k + 1) s.data.toList, take_snoc s k h]; simp
  unfold isNum
  have : digs s.data.toList = false := by
    unfold digs
    rw [List.all_eq_false]
    refine ⟨s[k], hm, ?_⟩
    simp [UInt8.le_iff_toNat_le]
    omega
  rw [this]; simp
theorem numF_no {s : ByteArray} (h : isNum s = false) : numF s = none := by simp [numF, h]
theorem numF_yes {s : ByteArray} {k : Nat} (h1 : 1 ≤ s.size) (h2 : s.size ≤ 4) (hk : ¬ k < s.size) (hl : digs (s.data.toList.take k) = true) : numF s = some (numV (s.data.toList.take k)) := by
  rw [take_all s k hk] at hl ⊢
  simp [numF, isNum, h1, h2, hl]
def numN (s : ByteArray) : Int := match numF s with | some n => n | none => 0
def numB (s : ByteArray) : Bool := (numF s).isSome
def numR (s : ByteArray) : Int := match numF s with | some n => n | none => -1
theorem ret_ib {a b : Int} {x y : Bool} (h : a = b) (h2 : x = y) : Ending.returned (.tuple #[.int .i64 a, .bool x]) = .returned (.tuple #[.int .i64 b, .bool y]) := by rw [h, h2]
theorem ret_i {a b : Int} (h : a = b) : Ending.returned (.int .i64 a) = .returned (.int .i64 b) := by rw [h]
set_option maxHeartbeats 1000000 in
theorem parseNumber_any (s : ByteArray) (w : World) (hs : s.size ≤ 1000) :
    Calls Tryz.prog 138 #[.string s] w fun e w' => e = .returned (.tuple #[.int .i64 (numN s), .bool (numB s)]) ∧ w' = w := by
  by_cases ha : s.size < 1
  · have hn : numF s = none := numF_no (by simp [isNum]; omega)
    go_enter Tryz.func138, Tryz.ntmps138
    go_wp2_with fail
    go_ret2
    exact ⟨ret_ib (by simp [numN, hn]) (by simp [numB, hn]), rfl⟩
  by_cases hb : 4 < s.size
  · have hn : numF s = none := numF_no (by simp [isNum]; omega)
    go_enter Tryz.func138, Tryz.ntmps138
    go_wp2_with fail
    go_ret2
    exact ⟨ret_ib (by simp [numN, hn]) (by simp [numB, hn]), rfl⟩
  have hb1 : decide ((4 : Int) < (s.size : Int)) = false := by simp; omega
  have hb2 : decide ((s.size : Int) < 1) = false := by simp; omega
  go_enter Tryz.func138, Tryz.ntmps138
  go_wp2_with fail
  go_loop [4, 5] (fun x i => ∃ (k : Nat) (a : Int), k ≤ s.size ∧ i = .int .i64 k ∧ x = .int .i64 a ∧ Hid (digs (s.data.toList.take k) = true ∧ a = (numV (s.data.toList.take k) : Int)) ∧ 0 ≤ a ∧ Hid (a < 10 ^ k)) (fun _ i => s.size - (intOf i).toNat)
  case atStart => exact ⟨0, 0, Nat.zero_le _, rfl, rfl, ⟨rfl, rfl⟩, by omega, (by show (0 : Int) < 10 ^ 0; decide)⟩
  case round =>
    obtain ⟨k, a, hk, rfl, rfl, HD, h0, H10⟩ := hrel
    have h4 : a ≤ 10000 := by
      have h := H10.out
      have hk4 : k ≤ 4 := by omega
      have : (10 : Int) ^ k ≤ 10 ^ 4 := by exact_mod_cast Nat.pow_le_pow_right (by decide) hk4
      omega
    by_cases hlt : k < s.size
    · by_cases h1 : (48 : Int) ≤ (s[k].toNat : Int)
      · by_cases h2 : (s[k].toNat : Int) ≤ 57
        · go_wp2_with fail
          go_round
          case rel => exact ⟨k + 1, _, by omega, by go_num, rfl, ⟨digs_snoc s k hlt HD.out.1 h1 h2, (by rw [take_snoc s k hlt, numV_snoc, HD.out.2]; omega)⟩, by omega, (by
            show _ < _
            have h := H10.out
            rw [Int.pow_succ]
            omega)⟩
          case measure => simp [intOf]; omega
        · have hn : Hid (numF s = none) := numF_no (digs_bad s k hlt (by omega))
          go_wp2_with fail
          go_ret2
          exact ⟨ret_ib (by simp [numN, hn.out]) (by simp [numB, hn.out]), rfl⟩
      · have hn : Hid (numF s = none) := numF_no (digs_bad s k hlt (by omega))
        go_wp2_with fail
        go_ret2
        exact ⟨ret_ib (by simp [numN, hn.out]) (by simp [numB, hn.out]), rfl⟩
    · have hn : Hid (numF s = some (numV (s.data.toList.take k))) := numF_yes (by omega) (by omega) hlt HD.out.1
      go_wp2_with fail
      go_ret2
      exact ⟨ret_ib (by simp [numN, hn.out, HD.out.2]) (by simp [numB, hn.out]), rfl⟩
def kwL (k : Nat) : List UInt8 := match k with | 0 => [115, 105, 122, 101] | 1 => [119, 97, 105, 116] | 2 => [102, 97, 114] | _ => [98, 117, 100, 103, 101, 116]
def keyF (s : ByteArray) : Option Nat := if s.toList == kwL 0 then some 0 else if s.toList == kwL 1 then some 1 else if s.toList == kwL 2 then some 2 else none
def keyB (s : ByteArray) : Bool := (keyF s).isSome
def keyR (s : ByteArray) : Int := match keyF s with | some k => k | none => -1
set_option maxHeartbeats 400000 in
theorem isKey_any (s : ByteArray) (w : World) :
    Calls Tryz.prog 140 #[.string s] w fun e w' => e = .returned (.bool (keyB s)) ∧ w' = w := by
  cases h0 : s.toList == [115, 105, 122, 101]
  · cases h1 : s.toList == [119, 97, 105, 116]
    · cases h2 : s.toList == [102, 97, 114]
      all_goals
        go_enter Tryz.func140, Tryz.ntmps140
        go_wp2_with fail
        go_ret
        exact ⟨ret_bool (by simp [keyB, keyF, kwL, h0, h1, h2]), rfl⟩
    · go_enter Tryz.func140, Tryz.ntmps140
      go_wp2_with fail
      go_ret
      exact ⟨ret_bool (by simp [keyB, keyF, kwL, h0, h1]), rfl⟩
  · go_enter Tryz.func140, Tryz.ntmps140
    go_wp2_with fail
    go_ret
    exact ⟨ret_bool (by simp [keyB, keyF, kwL, h0]), rfl⟩
end Co
end Go.Proofs.YtohbonfngeblkaaGreat
