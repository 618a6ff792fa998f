
import Derived.Test.YtfdnfopnhhfmkaaDoorPrI
namespace Go.Proofs.YtfdnfopnhhfmkaaDoor
open Go.RowKit
namespace Pr

abbrev rBud : ByteArray := ⟨#[98, 117, 100, 103, 101, 116, 32]⟩
abbrev rSize : ByteArray := ⟨#[32, 115, 105, 122, 101, 32]⟩
abbrev rWait : ByteArray := ⟨#[32, 119, 97, 105, 116, 32]⟩
abbrev rFar : ByteArray := ⟨#[32, 102, 97, 114, 32]⟩
theorem rbud_eq (b : Int) : rBud ++ decS 2 b ++ sNl = budS b := by
  apply ba_ext
  simp [budS, entryS]
theorem rline_eq (acc nm : ByteArray) (sz wt fr : Int) :
    acc ++ sPool ++ nm ++ rSize ++ decS 2 sz ++ rWait ++ decS 2 wt ++ rFar ++ decS 2 fr ++ sNl = acc ++ lineP ⟨nm, sz, wt, fr⟩ := by
  apply ba_ext
  simp [lineP, entryS]

set_option maxHeartbeats 1000000 in
theorem rprint_any (b : Int) (ao : Option Addr) (c n : Nat) (ps : List Pl) (w : World) (hps : Pools w ao ps) (hn : ps.length = n) (hlen : n ≤ maxLen) :
    Calls Tryd.prog 7 #[.agg #[.int .i64 b, .slice ao n c]] w fun e w' => e = .returned (.tuple #[.string (prT b ps), .int .i64 (prE b ps)]) ∧ Below w.heap.size w w' := by
  have hT := sound_any b ao c ps (w.alloc (bTab b ao n c)) (hps.nx (nx_alloc _ _)) (by rw [hn]; exact hlen)
  rw [hn] at hT
  have HTb := hideIt hT
  clear hT
  have HN : Hid (ps.length = n) := hn
  have HP : Hid (Pools (w.alloc (bTab b ao n c)) ao ps) := hps.nx (nx_alloc _ _)
  clear hn hps
  unfold maxLen at hlen
  cases hok : tabOk b ps
  · go_enter Tryd.func7, Tryd.ntmps7
    go_wp2_with fail
    refine HTb.out.mono ?_; rintro e w1 ⟨rfl, hb1⟩
    rw [hok]
    go_wp2_with fail
    go_ret2
    exact ⟨ret_pr (by simp [prT, hok]) (by simp [prE, hok]), nx_trans (nx_alloc _ _) hb1⟩
  have hok2 := hok
  simp [tabOk] at hok2
  obtain ⟨⟨hbud, h6⟩, hchk⟩ := hok2
  have h6n : n ≤ 6 := by rw [← HN.out]; exact h6
  obtain ⟨hb0, hb99⟩ := inB_t hbud
  have HC : Hid (chk ⟨#[]⟩ ps = true) := hchk
  clear h6 hchk hbud
  have hbs := budS_size b
  have hds := decS_size 2 b
  have e1 : rBud.size = 7 := rfl
  have e2 : rSize.size = 6 := rfl
  have e3 : rWait.size = 6 := rfl
  have e4 : rFar.size = 5 := rfl
  have e5 : sNl.size = 1 := rfl
  have e6 : sPool.size = 5 := rfl
  go_enter Tryd.func7, Tryd.ntmps7
  go_wp2_with fail
  refine HTb.out.mono ?_; rintro e w1 ⟨rfl, hb1⟩
  rw [hok]
  have q0 : w1.cell? ⟨w.heap.size, 0, none⟩ = some (.int .i64 b) := (hb1.cell (p := ⟨w.heap.size, 0, none⟩) (by simp)).trans (by simp)
  have q1 : w1.cell? ⟨w.heap.size, 1, none⟩ = some (.slice ao n c) := (hb1.cell (p := ⟨w.heap.size, 1, none⟩) (by simp)).trans (by simp)
  have HB1 : Hid (Below (w.alloc (bTab b ao n c)).heap.size (w.alloc (bTab b ao n c)) w1) := hb1
  have hz1 : w.heap.size < w1.heap.size := sz_lt hb1
  clear hb1
  go_wp2_with fail
  refine (dec_any 2 b _ (by omega) (by omega) (by omega)).mono ?_; rintro e w2 ⟨rfl, hb2⟩
  have q1' : w2.cell? ⟨w.heap.size, 1, none⟩ = some (.slice ao n c) := (hb2.cell (p := ⟨w.heap.size, 1, none⟩) hz1).trans q1
  have HB2 : Hid (Below (w.alloc (bTab b ao n c)).heap.size (w.alloc (bTab b ao n c)) w2) := nx_trans HB1.out hb2
  have hz2 : w.heap.size < w2.heap.size := Nat.lt_of_lt_of_le hz1 hb2.size
  clear hb2 q0 q1 HB1 hz1
  go_wp2_with fail
  go_loopw [5, 6] (fun s i wr => ∃ (k : Nat) (acc : ByteArray), k ≤ n ∧ i = .int .i64 k ∧ s = .string acc ∧ Hid (acc = txtTo b ps k) ∧ acc.size ≤ 20 + 100 * k ∧ Below w2.heap.size w2 wr) (fun _ i _ => n - (intOf i).toNat)
  case atStart => exact ⟨0, _, Nat.zero_le _, rfl, rfl, rbud_eq b, (by rw [rbud_eq]; exact hbs), Below.refl _ _⟩
  case round =>
    obtain ⟨k, acc, hk, rfl, rfl, HA, hacc, hbel⟩ := hrel
    have hcell : wr.cell? ⟨w.heap.size, 1, none⟩ = some (.slice ao n c) := (hbel.cell (p := ⟨w.heap.size, 1, none⟩) hz2).trans q1'
    have HB : Hid (Below w.heap.size w wr) := nx_trans (nx_alloc _ _) (nx_trans HB2.out hbel)
    by_cases hlt : k < n
    · obtain ⟨⟨nm, sz, wt, fr⟩, hp⟩ : ∃ p, ps[k]? = some p := ⟨_, List.getElem?_eq_getElem (by rw [HN.out]; exact hlt)⟩
      obtain ⟨bl, off, rfl, hbl, c0, c1, c2, c3, hs⟩ := (HP.out.nx (nx_trans HB2.out hbel)).at hp
      obtain ⟨h8, ⟨a0, a1⟩, ⟨b0, b1⟩, ⟨d0, d1⟩⟩ := plOk_out (chk_ok _ _ HC.out _ _ hp)
      have HS : Hid (txtTo b ps (k + 1) = txtTo b ps k ++ lineP ⟨nm, sz, wt, fr⟩) := txtTo_succ b ps k _ hp
      have hls := lineP_size ⟨nm, sz, wt, fr⟩ h8
      have y1 := decS_size 2 sz
      have y2 := decS_size 2 wt
      have y3 := decS_size 2 fr
      have HL := hideIt (rline_eq acc nm sz wt fr)
      clear hp
      simp only at c0 c1 c2 c3
      obtain ⟨W4, hW4⟩ : ∃ W4, W4 = wr.alloc (.cells #[.string nm, .int .i64 sz, .int .i64 wt, .int .i64 fr] 34) := ⟨_, rfl⟩
      have g0 : W4.cell? ⟨wr.heap.size, 0, none⟩ = some (.string nm) := by rw [hW4]; simp
      have g2 : W4.cell? ⟨wr.heap.size, 2, none⟩ = some (.int .i64 wt) := by rw [hW4]; simp
      have g3 : W4.cell? ⟨wr.heap.size, 3, none⟩ = some (.int .i64 fr) := by rw [hW4]; simp
      have HW4 : Hid (W4 = wr.alloc (.cells #[.string nm, .int .i64 sz, .int .i64 wt, .int .i64 fr] 34) ∧ wr.heap.size < W4.heap.size ∧ Below wr.heap.size wr W4) := ⟨hW4, by rw [hW4]; simp, by rw [hW4]; exact nx_alloc _ _⟩
      clear hW4
      go_wp2_with fail
      rw [← HW4.out.1]
      refine (dec_any 2 sz _ a0 (by omega) (by omega)).mono ?_; rintro e w5 ⟨rfl, hb5⟩
      have m0 : w5.cell? ⟨wr.heap.size, 0, none⟩ = some (.string nm) := (hb5.cell (p := ⟨wr.heap.size, 0, none⟩) HW4.out.2.1).trans g0
      have m2 : w5.cell? ⟨wr.heap.size, 2, none⟩ = some (.int .i64 wt) := (hb5.cell (p := ⟨wr.heap.size, 2, none⟩) HW4.out.2.1).trans g2
      have m3 : w5.cell? ⟨wr.heap.size, 3, none⟩ = some (.int .i64 fr) := (hb5.cell (p := ⟨wr.heap.size, 3, none⟩) HW4.out.2.1).trans g3
      have H5 : Hid (Below W4.heap.size W4 w5) := hb5
      clear hb5 g0 g2 g3
      go_wp2_with fail
      refine (dec_any 2 wt _ b0 (by omega) (by omega)).mono ?_; rintro e w6 ⟨rfl, hb6⟩
      have hz5 : wr.heap.size < w5.heap.size := Nat.lt_of_lt_of_le HW4.out.2.1 H5.out.size
      have n0 : w6.cell? ⟨wr.heap.size, 0, none⟩ = some (.string nm) := (hb6.cell (p := ⟨wr.heap.size, 0, none⟩) hz5).trans m0
      have n3 : w6.cell? ⟨wr.heap.size, 3, none⟩ = some (.int .i64 fr) := (hb6.cell (p := ⟨wr.heap.size, 3, none⟩) hz5).trans m3
      have H6 : Hid (Below W4.heap.size W4 w6) := nx_trans H5.out hb6
      clear hb6 m0 m2 m3 hz5
      go_wp2_with fail
      refine (dec_any 2 fr _ d0 (by omega) (by omega)).mono ?_; rintro e w7 ⟨rfl, hb7⟩
      have hz6 : wr.heap.size < w6.heap.size := Nat.lt_of_lt_of_le HW4.out.2.1 H6.out.size
      have o0 : w7.cell? ⟨wr.heap.size, 0, none⟩ = some (.string nm) := (hb7.cell (p := ⟨wr.heap.size, 0, none⟩) hz6).trans n0
      have H7 : Hid (Below w2.heap.size w2 w7) := nx_trans (nx_trans hbel HW4.out.2.2) (nx_trans H6.out hb7)
      clear hb7 n0 n3 hz6
      go_wp2_with fail
      go_roundw
      case rel => exact ⟨k + 1, _, by omega, by go_num, rfl, (by show _ = _; rw [HL.out, HS.out, ← HA.out]), (by rw [HL.out, ByteArray.size_append]; omega), H7.out⟩
      case measure => simp [intOf]; omega
    · obtain rfl : k = n := by omega
      go_wp2_with fail
      go_ret2
      exact ⟨ret_pr (by rw [prT, if_pos hok, HN.out]; exact HA.out) (by simp [prE, hok]), HB.out⟩
end Pr
end Go.Proofs.YtfdnfopnhhfmkaaDoor
