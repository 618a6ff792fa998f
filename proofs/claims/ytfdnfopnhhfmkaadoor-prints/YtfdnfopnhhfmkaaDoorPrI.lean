
import Derived.Test.YtfdnfopnhhfmkaaDoorPrH
import Derived.Test.YtfdnfopnhhfmkaaDoorPrF
import Derived.Test.YtfdnfopnhhfmkaaDoorPrC
namespace Go.Proofs.YtfdnfopnhhfmkaaDoor
open Go.RowKit
namespace Pr

def budS (b : Int) : ByteArray := entryS sBudget b ++ sNl
def addP (acc : ByteArray) (p : Pl) : ByteArray := acc ++ lineP p
def txtTo (b : Int) (ps : List Pl) (k : Nat) : ByteArray := (ps.take k).foldl addP (budS b)
theorem budS_size (b : Int) : (budS b).size ≤ 20 := by
  have h1 := entryS_size sBudget b
  have e1 : sBudget.size = 6 := rfl
  have e5 : sNl.size = 1 := rfl
  unfold budS
  rw [ByteArray.size_append]; omega
theorem txtTo_succ (b : Int) (ps : List Pl) (k : Nat) (p : Pl) (h : ps[k]? = some p) : txtTo b ps (k + 1) = txtTo b ps k ++ lineP p := by
  unfold txtTo
  obtain ⟨hk, rfl⟩ := List.getElem?_eq_some_iff.1 h
  rw [List.take_succ_eq_append_getElem hk, List.foldl_append]
  rfl
theorem chk_ok : ∀ (l : ByteArray) (ps : List Pl), chk l ps = true → ∀ (k : Nat) (p : Pl), ps[k]? = some p → plOk p = true
  | _, [], _, k, p, h => by simp at h
  | l, q :: r, hc, 0, p, h => by
    simp at h; subst h
    simp [chk] at hc; exact hc.1.1
  | l, q :: r, hc, k + 1, p, h => by
    simp [chk] at hc
    exact chk_ok q.nm r hc.2 k p (by simpa using h)
theorem plOk_out {nm : ByteArray} {sz wt fr : Int} (h : plOk ⟨nm, sz, wt, fr⟩ = true) : nm.size ≤ 8 ∧ (0 ≤ sz ∧ sz < 1000) ∧ (0 ≤ wt ∧ wt < 1000) ∧ (0 ≤ fr ∧ fr < 1000) := by
  simp [plOk, isNm, inB] at h
  omega

def prT (b : Int) (ps : List Pl) : ByteArray := if tabOk b ps = true then txtTo b ps ps.length else ⟨#[]⟩
def prE (b : Int) (ps : List Pl) : Int := if tabOk b ps = true then 0 else 9
theorem ret_pr {a b : ByteArray} {x y : Int} (h : a = b) (h2 : x = y) : Ending.returned (.tuple #[.string a, .int .i64 x]) = .returned (.tuple #[.string b, .int .i64 y]) := by rw [h, h2]

set_option maxHeartbeats 1000000 in
theorem tprint_any (b : Int) (ao : Option Addr) (c n : Nat) (ps : List Pl) (w : World) (hps : Pools w ao ps) (hn : ps.length = n) (hlen : n ≤ maxLen) (ht : Tab w) :
    Calls Tryd.prog 10 #[.agg #[.int .i64 b, .slice ao n c]] w fun e w' => e = .returned (.tuple #[.string (prT b ps), .int .i64 (prE b ps)]) ∧ Below w.heap.size w w' := by
  have hT := isTable_any b ao c ps (w.alloc (bTab b ao n c)) (hps.nx (nx_alloc _ _)) (by rw [hn]; exact hlen)
  rw [hn] at hT
  have HTb := hideIt hT
  clear hT
  have HN : Hid (ps.length = n) := hn
  have HP : Hid (Pools (w.alloc (bTab b ao n c)) ao ps) := hps.nx (nx_alloc _ _)
  have HT : Hid (Tab (w.alloc (bTab b ao n c))) := ht.nx (nx_alloc _ _)
  clear hn hps ht
  unfold maxLen at hlen
  cases hok : tabOk b ps
  · go_enter Tryd.func10, Tryd.ntmps10
    go_wp2_with fail
    refine HTb.out.mono ?_; rintro e w1 ⟨rfl, hb1⟩
    rw [hok]
    go_wp2_with fail
    go_ret2
    exact ⟨ret_pr (by simp [prT, hok]) (by simp [prE, hok]), nx_trans (nx_alloc _ _) hb1⟩
  have hok2 := hok
  simp [tabOk] at hok2
  obtain ⟨⟨hbud, h6⟩, hchk⟩ := hok2
  have h6n : n ≤ 6 := by rw [← HN.out]; exact h6
  obtain ⟨hb0, hb99⟩ := inB_t hbud
  have HC : Hid (chk ⟨#[]⟩ ps = true) := hchk
  clear h6 hchk hbud
  have hbs := budS_size b
  have h1 := entryS_size sBudget b
  have e1 : sBudget.size = 6 := rfl
  have e5 : sNl.size = 1 := rfl
  go_enter Tryd.func10, Tryd.ntmps10
  go_wp2_with fail
  refine HTb.out.mono ?_; rintro e w1 ⟨rfl, hb1⟩
  rw [hok]
  have q0 : w1.cell? ⟨w.heap.size, 0, none⟩ = some (.int .i64 b) := (hb1.cell (p := ⟨w.heap.size, 0, none⟩) (by simp)).trans (by simp)
  have q1 : w1.cell? ⟨w.heap.size, 1, none⟩ = some (.slice ao n c) := (hb1.cell (p := ⟨w.heap.size, 1, none⟩) (by simp)).trans (by simp)
  have HB1 : Hid (Below (w.alloc (bTab b ao n c)).heap.size (w.alloc (bTab b ao n c)) w1) := hb1
  have hz1 : w.heap.size < w1.heap.size := sz_lt hb1
  clear hb1
  go_wp2_with fail
  refine (entry_any sBudget b (by omega) (by omega) (by omega) _ (HT.out.nx HB1.out)).mono ?_; rintro e w2 ⟨rfl, hb2⟩
  have q1' : w2.cell? ⟨w.heap.size, 1, none⟩ = some (.slice ao n c) := (hb2.cell (p := ⟨w.heap.size, 1, none⟩) hz1).trans q1
  have HB2 : Hid (Below (w.alloc (bTab b ao n c)).heap.size (w.alloc (bTab b ao n c)) w2) := nx_trans HB1.out hb2
  have hz2 : w.heap.size < w2.heap.size := Nat.lt_of_lt_of_le hz1 hb2.size
  clear hb2 q0 q1 HB1 hz1
  go_wp2_with fail
  go_loopw [4, 5] (fun s i wr => ∃ (k : Nat) (acc : ByteArray), k ≤ n ∧ i = .int .i64 k ∧ s = .string acc ∧ Hid (acc = txtTo b ps k) ∧ acc.size ≤ 20 + 100 * k ∧ Below w2.heap.size w2 wr) (fun _ i _ => n - (intOf i).toNat)
  case atStart => exact ⟨0, _, Nat.zero_le _, rfl, rfl, rfl, by have := hbs; simpa [budS] using this, Below.refl _ _⟩
  case round =>
    obtain ⟨k, acc, hk, rfl, rfl, HA, hacc, hbel⟩ := hrel
    have hcell : wr.cell? ⟨w.heap.size, 1, none⟩ = some (.slice ao n c) := (hbel.cell (p := ⟨w.heap.size, 1, none⟩) hz2).trans q1'
    have HB : Hid (Below w.heap.size w wr) := nx_trans (nx_alloc _ _) (nx_trans HB2.out hbel)
    by_cases hlt : k < n
    · obtain ⟨⟨nm, sz, wt, fr⟩, hp⟩ : ∃ p, ps[k]? = some p := ⟨_, List.getElem?_eq_getElem (by rw [HN.out]; exact hlt)⟩
      obtain ⟨bl, off, rfl, hbl, c0, c1, c2, c3, hs⟩ := (HP.out.nx (nx_trans HB2.out hbel)).at hp
      obtain ⟨h8, ⟨a0, a1⟩, ⟨b0, b1⟩, ⟨d0, d1⟩⟩ := plOk_out (chk_ok _ _ HC.out _ _ hp)
      have HS : Hid (txtTo b ps (k + 1) = txtTo b ps k ++ lineP ⟨nm, sz, wt, fr⟩) := txtTo_succ b ps k _ hp
      have hls := lineP_size ⟨nm, sz, wt, fr⟩ h8
      clear hp hs
      simp only at c0 c1 c2 c3
      go_wp2_with fail
      refine (poolLine_any nm sz wt fr h8 a0 a1 b0 b1 d0 d1 _ (HT.out.nx (nx_trans HB2.out hbel))).mono ?_; rintro e w3 ⟨rfl, hb3⟩
      go_wp2_with fail
      go_roundw
      case rel => exact ⟨k + 1, _, by omega, by go_num, rfl, (by show _ = _; rw [HS.out, ← HA.out]), (by rw [ByteArray.size_append]; omega), nx_trans hbel hb3⟩
      case measure => simp [intOf]; omega
    · obtain rfl : k = n := by omega
      go_wp2_with fail
      go_ret2
      exact ⟨ret_pr (by rw [prT, if_pos hok, HN.out]; exact HA.out) (by simp [prE, hok]), HB.out⟩

set_option maxHeartbeats 400000 in
theorem pprint_any (b : Int) (ao : Option Addr) (c n : Nat) (ps : List Pl) (w : World) (hps : Pools w ao ps) (hn : ps.length = n) (hlen : n ≤ maxLen) (ht : Tab w) :
    Calls Tryd.prog 6 #[.agg #[.int .i64 b, .slice ao n c]] w fun e w' => e = .returned (.tuple #[.string (prT b ps), .int .i64 (prE b ps)]) ∧ Below w.heap.size w w' := by
  have H := hideIt (tprint_any b ao c n ps (w.alloc (bTab b ao n c)) (hps.nx (nx_alloc _ _)) hn hlen (ht.nx (nx_alloc _ _)))
  clear hps hn ht
  go_enter Tryd.func6, Tryd.ntmps6
  go_wp2_with fail
  refine H.out.mono ?_; rintro e w1 ⟨rfl, hb1⟩
  go_wp2_with fail
  go_ret2
  exact ⟨rfl, nx_trans (nx_alloc _ _) hb1⟩
end Pr
end Go.Proofs.YtfdnfopnhhfmkaaDoor
