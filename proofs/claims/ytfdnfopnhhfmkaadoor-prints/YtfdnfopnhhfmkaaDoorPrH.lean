
import Derived.Test.YtfdnfopnhhfmkaaDoorPrG
import Derived.Test.YtfdnfopnhhfmkaaDoorPrShelf
import Derived.Lib.AppendIntMem
import Derived.Lib.SmallJoins
namespace Go.Proofs.YtfdnfopnhhfmkaaDoor
open Go.RowKit
namespace Pr

theorem ba_ext {a b : ByteArray} (h : a.data.toList = b.data.toList) : a = b := Go.WideShapes.bytes_inj h
theorem da (a b : ByteArray) : (a ++ b).data.toList = a.data.toList ++ b.data.toList := Go.Joins.data_append a b

theorem dig_dec : ∀ (f u : Nat), u < 10 ^ (f + 1) → (⟨(Lib.decDigits u).toArray⟩ : ByteArray) = decS f u
  | 0, u, h => by
    have h1 : u < 10 := by simpa using h
    rw [Lib.decDigits, dif_pos h1]
    unfold decS dg
    have e : (48 + (u : Int) % 10).toNat = 48 + u := by omega
    rw [e]
  | f + 1, u, h => by
    by_cases h1 : u < 10
    · rw [Lib.decDigits, dif_pos h1]
      have h2 : (u : Int) < 10 := by omega
      rw [decS, if_pos h2]
      unfold dg
      have e : (48 + (u : Int) % 10).toNat = 48 + u := by omega
      rw [e]
    · have h2 : ¬ (u : Int) < 10 := by omega
      rw [Lib.decDigits, dif_neg h1, decS, if_neg h2]
      have ih := dig_dec f (u / 10) (by rw [Nat.pow_succ] at h; omega)
      have e1 : ((u : Int) / 10) = ((u / 10 : Nat) : Int) := by omega
      rw [e1, ← ih]
      apply ba_ext
      rw [da]
      unfold dg
      have e : (48 + (u : Int) % 10).toNat = 48 + u % 10 := by omega
      rw [e]

def Tab (w : World) : Prop := Lib.TabIs Tryd.prog w "internal/strconv.uint64pow10" .u64 Lib.pow10Tab
theorem Tab.nx {w w' : World} (h : Tab w) (hb : Below w.heap.size w w') : Tab w' := Lib.tabBelow_of_tabIs h w' hb
theorem nx_grow (w : World) (k : Nat) (os : Array Obj) : Below w.heap.size w (Sort.grow (w.drewN k) os) := by
  refine ⟨rfl, rfl, rfl, ?_, fun j hj => ?_⟩
  · show w.heap.size ≤ (w.heap ++ os).size
    simp
  · show (w.heap ++ os)[j]? = w.heap[j]?
    rw [Array.getElem?_append_left hj]

theorem itoa_any (n : Int) (h0 : 0 ≤ n) (h1 : n < 1000) (w : World) (ht : Tab w) :
    Calls Tryd.prog 21 #[.int .i64 n] w fun e w' => e = .returned (.string (decS 2 n)) ∧ Below w.heap.size w w' := by
  refine (Tryd.strconv_Itoa n (by omega) (by omega) w ht).mono ?_
  rintro e w' ⟨rfl, k, os, rfl⟩
  refine ⟨ret_str ?_, nx_grow w k os⟩
  have e : Lib.itoa n = Lib.decDigits n.toNat := by unfold Lib.itoa; rw [if_neg (by omega)]
  rw [e, dig_dec 2 n.toNat (by omega)]
  congr 1
  omega

abbrev sBl : ByteArray := ⟨#[32]⟩
abbrev sNl : ByteArray := ⟨#[10]⟩
abbrev sPool : ByteArray := ⟨#[112, 111, 111, 108, 32]⟩
def entryS (word : ByteArray) (n : Int) : ByteArray := word ++ sBl ++ decS 2 n
theorem entryS_size (word : ByteArray) (n : Int) : (entryS word n).size ≤ word.size + 4 := by
  have := decS_size 2 n
  unfold entryS
  rw [ByteArray.size_append, ByteArray.size_append]
  have e : sBl.size = 1 := rfl
  omega

set_option maxHeartbeats 400000 in
theorem entry_any (word : ByteArray) (n : Int) (hw : word.size ≤ 100) (h0 : 0 ≤ n) (h1 : n < 1000) (w : World) (ht : Tab w) :
    Calls Tryd.prog 15 #[.string word, .int .i64 n] w fun e w' => e = .returned (.string (entryS word n)) ∧ Below w.heap.size w w' := by
  have HT : Hid (Tab w) := ht
  clear ht
  have hsz := decS_size 2 n
  have hb1 : sBl.size = 1 := rfl
  go_enter Tryd.func15, Tryd.ntmps15
  go_wp2_with fail
  refine (itoa_any n h0 h1 _ HT.out).mono ?_; rintro e w' ⟨rfl, hb⟩
  go_wp2_with fail
  go_ret
  exact ⟨rfl, hb⟩

def lineP (p : Pl) : ByteArray := sPool ++ p.nm ++ (sBl ++ entryS sSize p.sz) ++ (sBl ++ entryS sWait p.wt) ++ (sBl ++ entryS sFar p.fr) ++ sNl
theorem lineP_size (p : Pl) (h : p.nm.size ≤ 8) : (lineP p).size ≤ 100 := by
  have h1 := entryS_size sSize p.sz
  have h2 := entryS_size sWait p.wt
  have h3 := entryS_size sFar p.fr
  have e1 : sSize.size = 4 := rfl
  have e2 : sWait.size = 4 := rfl
  have e3 : sFar.size = 3 := rfl
  have e4 : sBl.size = 1 := rfl
  have e5 : sNl.size = 1 := rfl
  have e6 : sPool.size = 5 := rfl
  unfold lineP
  simp only [ByteArray.size_append]
  omega

set_option maxHeartbeats 1000000 in
theorem poolLine_any (nm : ByteArray) (sz wt fr : Int) (h8 : nm.size ≤ 8) (a0 : 0 ≤ sz) (a1 : sz < 1000) (b0 : 0 ≤ wt) (b1 : wt < 1000) (c0 : 0 ≤ fr) (c1 : fr < 1000) (w : World) (ht : Tab w) :
    Calls Tryd.prog 16 #[.agg #[.string nm, .int .i64 sz, .int .i64 wt, .int .i64 fr]] w fun e w' => e = .returned (.string (lineP ⟨nm, sz, wt, fr⟩)) ∧ Below w.heap.size w w' := by
  obtain ⟨W1, hW1⟩ : ∃ W1, W1 = w.alloc (.cells #[.string nm, .int .i64 sz, .int .i64 wt, .int .i64 fr] 34) := ⟨_, rfl⟩
  have hb : Below w.heap.size w W1 := by rw [hW1]; exact nx_alloc _ _
  have hz : w.heap.size < W1.heap.size := by rw [hW1]; simp
  have q2 : W1.cell? ⟨w.heap.size, 2, none⟩ = some (.int .i64 wt) := by rw [hW1]; simp
  have q3 : W1.cell? ⟨w.heap.size, 3, none⟩ = some (.int .i64 fr) := by rw [hW1]; simp
  have HT : Hid (Tab W1) := ht.nx hb
  have HQ : Hid (Below w.heap.size w W1 ∧ w.heap.size < W1.heap.size ∧ W1.cell? ⟨w.heap.size, 2, none⟩ = some (.int .i64 wt) ∧ W1.cell? ⟨w.heap.size, 3, none⟩ = some (.int .i64 fr)) := ⟨hb, hz, q2, q3⟩
  have HW : Hid (W1 = w.alloc (.cells #[.string nm, .int .i64 sz, .int .i64 wt, .int .i64 fr] 34)) := hW1
  clear ht hb hz q2 q3 hW1
  have h1 := entryS_size sSize sz
  have h2 := entryS_size sWait wt
  have h3 := entryS_size sFar fr
  have e1 : sSize.size = 4 := rfl
  have e2 : sWait.size = 4 := rfl
  have e3 : sFar.size = 3 := rfl
  have e4 : sBl.size = 1 := rfl
  have e5 : sNl.size = 1 := rfl
  have e6 : sPool.size = 5 := rfl
  go_enter Tryd.func16, Tryd.ntmps16
  go_wp2_with fail
  rw [← HW.out]
  refine (entry_any sSize sz (by omega) a0 a1 _ HT.out).mono ?_; rintro e w1 ⟨rfl, hb1⟩
  have r2 : w1.cell? ⟨w.heap.size, 2, none⟩ = some (.int .i64 wt) := (hb1.cell (p := ⟨w.heap.size, 2, none⟩) HQ.out.2.1).trans HQ.out.2.2.1
  have r3 : w1.cell? ⟨w.heap.size, 3, none⟩ = some (.int .i64 fr) := (hb1.cell (p := ⟨w.heap.size, 3, none⟩) HQ.out.2.1).trans HQ.out.2.2.2
  have H1 : Hid (Below W1.heap.size W1 w1) := hb1
  clear hb1
  go_wp2_with fail
  refine (entry_any sWait wt (by omega) b0 b1 _ (HT.out.nx H1.out)).mono ?_; rintro e w2 ⟨rfl, hb2⟩
  have s3 : w2.cell? ⟨w.heap.size, 3, none⟩ = some (.int .i64 fr) := (hb2.cell (p := ⟨w.heap.size, 3, none⟩) (Nat.lt_of_lt_of_le HQ.out.2.1 H1.out.size)).trans r3
  have H2 : Hid (Below W1.heap.size W1 w2) := nx_trans H1.out hb2
  clear hb2 r2 r3
  go_wp2_with fail
  refine (entry_any sFar fr (by omega) c0 c1 _ (HT.out.nx H2.out)).mono ?_; rintro e w3 ⟨rfl, hb3⟩
  go_wp2_with fail
  go_ret
  exact ⟨rfl, nx_trans HQ.out.1 (nx_trans H2.out hb3)⟩
end Pr
end Go.Proofs.YtfdnfopnhhfmkaaDoor
