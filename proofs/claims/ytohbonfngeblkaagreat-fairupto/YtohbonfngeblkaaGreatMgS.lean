import Derived.Test.YtohbonfngeblkaaGreatMgB
import Derived.Laws.IdiomStrings
namespace Go.Proofs.YtohbonfngeblkaaGreat
open Go.RowKit
namespace Co
def I64 (c : Int) : Prop := -9223372036854775808 ≤ c ∧ c ≤ 9223372036854775807
theorem mod_lt {c n : Int} (h0 : 0 ≤ c) (hn : 0 < n) : 0 ≤ c.tmod n ∧ c.tmod n < n := by
  rw [Int.tmod_eq_emod_of_nonneg h0]
  exact ⟨Int.emod_nonneg _ (by omega), Int.emod_lt_of_pos _ hn⟩
set_option maxRecDepth 20000 in
set_option maxHeartbeats 400000 in
theorem pick_any (c n : Int) (w : World) (hc : I64 c) (hn : 0 < n) (hn2 : n ≤ 1000) :
    Calls Tryz.prog 23 #[.int .i64 c, .int .i64 n] w fun e w' => (∃ r, 0 ≤ r ∧ r < n ∧ e = .returned (.int .i64 r)) ∧ w' = w := by
  obtain ⟨h1, h2⟩ := hc
  have hn0 : ¬ n = 0 := by omega
  by_cases hneg : c < 0
  · have h3 : -(c + 1) ≥ 0 := by omega
    go_enter Tryz.func23, Tryz.ntmps23
    go_wp2_with fail
    go_ret
    have h4 := mod_lt h3 hn
    rw [Int.neg_tmod] at h4
    exact ⟨⟨_, h4.1, h4.2, rfl⟩, rfl⟩
  · go_enter Tryz.func23, Tryz.ntmps23
    go_wp2_with fail
    go_ret
    exact ⟨⟨_, Int.emod_nonneg _ hn0, Int.emod_lt_of_pos _ hn, rfl⟩, rfl⟩
set_option maxRecDepth 20000 in
set_option maxHeartbeats 400000 in
theorem bent_any (n lo hi : Int) (w : World) (hc : I64 n) (hl : 0 ≤ lo) (hh : lo ≤ hi) (h9 : hi ≤ 999) :
    Calls Tryz.prog 58 #[.int .i64 n, .int .i64 lo, .int .i64 hi] w fun e w' => (∃ r, lo ≤ r ∧ r ≤ hi ∧ e = .returned (.int .i64 r)) ∧ w' = w := by
  have HP := hideIt (pick_any n (hi - lo + 1) w hc (by omega) (by omega))
  by_cases ha : lo ≤ n
  · by_cases hb : n ≤ hi
    · go_enter Tryz.func58, Tryz.ntmps58
      go_wp2_with fail
      go_ret
      exact ⟨⟨n, ha, hb, rfl⟩, rfl⟩
    · go_enter Tryz.func58, Tryz.ntmps58
      go_wp2_with fail
      refine HP.out.mono ?_
      rintro e w1 ⟨⟨r, h1, h2, rfl⟩, rfl⟩
      go_wp2_with fail
      go_ret
      exact ⟨⟨lo + r, by omega, by omega, rfl⟩, rfl⟩
  · go_enter Tryz.func58, Tryz.ntmps58
    go_wp2_with fail
    refine HP.out.mono ?_
    rintro e w1 ⟨⟨r, h1, h2, rfl⟩, rfl⟩
    go_wp2_with fail
    go_ret
    exact ⟨⟨lo + r, by omega, by omega, rfl⟩, rfl⟩
theorem conv_byte (wr : World) (n : Int) (h0 : 0 ≤ n) (h1 : n ≤ 255) :
    (convert 117 9 (.slice (some ⟨wr.heap.size, 0, none⟩) 1 1)).run Tryz.prog (wr.alloc (.cells #[.int .u8 n] 5)) = .ok (.string ⟨#[UInt8.ofNat n.toNat]⟩) (wr.alloc (.cells #[.int .u8 n] 5)) := by
  have e : ((UInt8.ofNat n.toNat).toNat : Int) = n := by simp [UInt8.toNat_ofNat']; omega
  refine run_convert_bytes_back _ _ _ 5 _ 1 [UInt8.ofNat n.toNat] Tryz.underlying117 Tryz.underlying5 Tryz.underlying9 ?_
  intro j hj
  have : j = 0 := by simpa using hj
  subst this
  show _ = some (Value.int .u8 ((UInt8.ofNat n.toNat).toNat : Int))
  rw [e]
  exact World.cell?_alloc_mark wr _ _ (0, 0) 0
theorem size_isEmpty {t : ByteArray} (h : t.toList.isEmpty = true) : t.size = 0 := by
  rw [ByteArray.toList_eq, List.isEmpty_iff] at h
  have : t.data.toList.length = 0 := by rw [h]; rfl
  rw [Array.length_toList] at this
  exact this
theorem isEmpty_size {t : ByteArray} (h : t.size = 0) : t.toList.isEmpty = true := by
  rw [ByteArray.toList_eq, List.isEmpty_iff, ← List.length_eq_zero_iff, Array.length_toList]
  exact h
theorem isNm_lets {t : ByteArray} (h : lets t.data.toList = true) (h1 : 1 ≤ t.size) (h2 : t.size ≤ 8) : isNm t = true := by
  simp [isNm, h, h1, h2]
theorem lets_push (t : ByteArray) (x : UInt8) (h : lets t.data.toList = true) (h1 : 97 ≤ x.toNat) (h2 : x.toNat ≤ 122) : lets (t ++ ⟨#[x]⟩).data.toList = true ∧ (t ++ ⟨#[x]⟩).size = t.size + 1 := by
  constructor
  · unfold lets at *
    rw [ByteArray.data_append, Array.toList_append, List.all_append, h]
    simp [UInt8.le_iff_toNat_le]; omega
  · rw [ByteArray.size_append]; rfl
theorem add_small (n : Nat) : (97 + UInt8.ofNat (n % 26)).toNat = 97 + n % 26 := by
  rw [UInt8.toNat_add, UInt8.toNat_ofNat']
  simp
  omega
set_option maxRecDepth 20000 in
set_option maxHeartbeats 800000 in
theorem knamed_any (s : ByteArray) (w : World) :
    Calls Tryz.prog 59 #[.string s] w fun e w' => (∃ r, isNm r = true ∧ e = .returned (.string r)) ∧ Below w.heap.size w w' := by
  go_enter Tryz.func59, Tryz.ntmps59
  go_wp2_with fail
  go_loopw [3, 4] (fun o i wr => ∃ (k : Nat) (t : ByteArray), k ≤ s.size ∧ k ≤ 8 ∧ i = .int .i64 k ∧ o = .string t ∧ Hid (t.size = k ∧ lets t.data.toList = true) ∧ Below w.heap.size w wr) (fun _ i _ => s.size - (intOf i).toNat)
  case atStart => exact ⟨0, ⟨#[]⟩, Nat.zero_le _, Nat.zero_le _, rfl, rfl, ⟨rfl, rfl⟩, Below.refl _ _⟩
  case round =>
    obtain ⟨k, t, hk, hk8, rfl, rfl, hl, hb⟩ := hrel
    have hts : ¬ 9223372036854775807 < t.size + 1 := by have := hl.out.1; omega
    by_cases hlt : k < s.size
    · by_cases hl8 : k < 8
      · have hc := conv_byte wr (s[k].toNat : Int) (by omega) (by have := UInt8.toNat_lt s[k]; omega)
        have hc2 := conv_byte wr (97 + (s[k].toNat : Int) % 26) (by omega) (by omega)
        by_cases h1 : (97 : Int) ≤ (s[k].toNat : Int)
        · by_cases h2 : (s[k].toNat : Int) ≤ 122
          · clear hc2
            go_wp2_with fail
            go_round
            case rel =>
              obtain ⟨l1, l2⟩ := lets_push t s[k] hl.out.2 (by omega) (by omega)
              refine ⟨k + 1, t ++ ⟨#[s[k]]⟩, by omega, by omega, by go_num, rfl, ⟨by rw [l2, hl.out.1], l1⟩, hb.alloc (hb.size) _⟩
            case measure => simp [intOf]; omega
          · clear hc
            go_wp2_with fail
            go_round
            case rel =>
              obtain ⟨l1, l2⟩ := lets_push t (97 + UInt8.ofNat (s[k].toNat % 26)) hl.out.2 (by rw [add_small]; omega) (by rw [add_small]; omega)
              exact ⟨k + 1, t ++ ⟨#[97 + UInt8.ofNat (s[k].toNat % 26)]⟩, by omega, by omega, by go_num, rfl, ⟨by rw [l2, hl.out.1], l1⟩, hb.alloc (hb.size) _⟩
            case measure => simp [intOf]; omega
        · clear hc
          go_wp2_with fail
          go_round
          case rel =>
            obtain ⟨l1, l2⟩ := lets_push t (97 + UInt8.ofNat (s[k].toNat % 26)) hl.out.2 (by rw [add_small]; omega) (by rw [add_small]; omega)
            exact ⟨k + 1, t ++ ⟨#[97 + UInt8.ofNat (s[k].toNat % 26)]⟩, by omega, by omega, by go_num, rfl, ⟨by rw [l2, hl.out.1], l1⟩, hb.alloc (hb.size) _⟩
          case measure => simp [intOf]; omega
      · have he : t.toList.isEmpty = false := by
          have := hl.out.1
          cases h : t.toList.isEmpty with
          | false => rfl
          | true => exact absurd (size_isEmpty h) (by omega)
        go_wp2_with fail
        go_ret
        exact ⟨⟨t, isNm_lets hl.out.2 (by have := hl.out.1; omega) (by have := hl.out.1; omega), rfl⟩, hb⟩
    · cases he : t.toList.isEmpty with
      | false =>
        have h1 : 1 ≤ t.size := by
          apply Classical.byContradiction
          intro h
          rw [isEmpty_size (by omega)] at he
          exact absurd he (by simp)
        go_wp2_with fail
        go_ret
        exact ⟨⟨t, isNm_lets hl.out.2 h1 (by have := hl.out.1; omega), rfl⟩, hb⟩
      | true =>
        go_wp2_with fail
        go_ret
        exact ⟨⟨⟨#[97]⟩, by decide, rfl⟩, hb⟩
end Co
end Go.Proofs.YtohbonfngeblkaaGreat
