import Derived.Test.YtmmmjpkhnbfnbaaGreatMgL
import Derived.Deep.RegionLaw
import Derived.Deep.AppendLies
import Derived.Deep.DeepCutAuto
namespace Go.Proofs.YtmmmjpkhnbfnbaaGreat
open Go.RowKit
namespace Lw
open Co

set_option maxRecDepth 20000 in
set_option maxHeartbeats 1000000 in
theorem rHolds (b : Int) (p1 : Option Addr) (n1 p2 : Nat) (s1 : Option Addr) (n2 s2 : Nat) (w1 : Option Addr) (n3 w2 : Nat) (t1 : Option Addr) (n4 t2 : Nat) (bg bk : Bool) (nx hb : Int) (h1 : Option Addr) (n5 h2 : Nat) (c : Int) (ss : List Srv) (w : World) (hr : RowAt w (.slice s1 n2 s2) n2 (flatV ss)) (hn : ss.length = n2) (hlen : n2 ≤ maxLen) :
    Calls Tryz.prog 65 #[.agg #[.int .i64 b, .slice p1 n1 p2, .slice s1 n2 s2, .slice w1 n3 w2, .slice t1 n4 t2, .bool bg, .bool bk, .int .i64 nx, .int .i64 hb, .slice h1 n5 h2], .int .i64 c] w fun e w' => e = .returned (.int .i64 (optI (ss.findIdx? (isCliV c)))) ∧ Below w.heap.size w w' := by
  unfold maxLen at hlen
  have HR : Hid (RowAt (w.alloc (.cells #[.int .i64 b, .slice p1 n1 p2, .slice s1 n2 s2, .slice w1 n3 w2, .slice t1 n4 t2, .bool bg, .bool bk, .int .i64 nx, .int .i64 hb, .slice h1 n5 h2] 38)) (.slice s1 n2 s2) n2 (flatV ss) ∧ ss.length = n2 ∧ (w.alloc (.cells #[.int .i64 b, .slice p1 n1 p2, .slice s1 n2 s2, .slice w1 n3 w2, .slice t1 n4 t2, .bool bg, .bool bk, .int .i64 nx, .int .i64 hb, .slice h1 n5 h2] 38)).heap[w.heap.size]? = some (.cells #[.int .i64 b, .slice p1 n1 p2, .slice s1 n2 s2, .slice w1 n3 w2, .slice t1 n4 t2, .bool bg, .bool bk, .int .i64 nx, .int .i64 hb, .slice h1 n5 h2] 38)) := ⟨hr.nx (nx_alloc _ _), hn, heap_alloc_at _ _ rfl⟩
  clear hr hn
  go_enter Tryz.func65, Tryz.ntmps65
  go_wp2_with fail
  go_loopw [5] (fun i wr => ∃ k : Nat, k ≤ n2 ∧ i = .int .i64 k ∧ Hid (∀ y ∈ ss.take k, (isCliV c) y = false) ∧ Below (w.alloc (.cells #[.int .i64 b, .slice p1 n1 p2, .slice s1 n2 s2, .slice w1 n3 w2, .slice t1 n4 t2, .bool bg, .bool bk, .int .i64 nx, .int .i64 hb, .slice h1 n5 h2] 38)).heap.size (w.alloc (.cells #[.int .i64 b, .slice p1 n1 p2, .slice s1 n2 s2, .slice w1 n3 w2, .slice t1 n4 t2, .bool bg, .bool bk, .int .i64 nx, .int .i64 hb, .slice h1 n5 h2] 38)) wr) (fun i _ => n2 - (intOf i).toNat)
  case atStart => exact ⟨0, Nat.zero_le _, rfl, by intro y hy; simp at hy, Below.refl _ _⟩
  case round =>
    obtain ⟨k, hk, rfl, HT, hbel⟩ := hrel
    have hbx : wr.heap[w.heap.size]? = some (.cells #[.int .i64 b, .slice p1 n1 p2, .slice s1 n2 s2, .slice w1 n3 w2, .slice t1 n4 t2, .bool bg, .bool bk, .int .i64 nx, .int .i64 hb, .slice h1 n5 h2] 38) := (hbel.block _ (by simp)).trans HR.out.2.2
    have HB : Hid (Below w.heap.size w wr) := nx_trans (nx_alloc _ _) hbel
    have hcell : wr.cell? ⟨w.heap.size, 2, none⟩ = some (.slice s1 n2 s2) := by simp [World.cell?, hbx]
    by_cases hlt : k < n2
    · obtain ⟨⟨x0, x1, x2, x3⟩, hp⟩ : ∃ p, ss[k]? = some p := ⟨_, List.getElem?_eq_getElem (by rw [HR.out.2.1]; exact hlt)⟩
      obtain ⟨bl, off, hao, hbl, c0, c1, c2, c3⟩ := sv_at (HR.out.1.nx hbel) hp
      subst hao
      simp only at c0 c1 c2 c3
      have hlti : (k : Int) < (n2 : Int) := by omega
      cases hq : (x3 == c) with
      | true =>
        have HH : Hid (ss.findIdx? (isCliV c) = some k) := find_hit HT.out hp (by show (x3 == c) = true; exact hq)
        clear hp hbx
        go_wp2_with fail
        go_ret
        exact ⟨by rw [HH.out]; rfl, HB.out⟩
      | false =>
        have HN : Hid (∀ y ∈ ss.take (k + 1), (isCliV c) y = false) := take_next HT.out hp (by show (x3 == c) = false; exact hq)
        clear hp hbx
        go_wp2_with fail
        go_roundw
        case rel => exact ⟨k + 1, by omega, by go_num, HN.out, hbel⟩
        case measure => simp [intOf]; omega
    · have HM : Hid (ss.findIdx? (isCliV c) = none) := find_miss (fun y hy => HT.out y (by rw [List.take_of_length_le (by rw [HR.out.2.1]; omega)]; exact hy))
      clear hbx
      go_wp2_with fail
      go_ret
      exact ⟨by rw [HM.out]; rfl, HB.out⟩

set_option maxRecDepth 20000 in
set_option maxHeartbeats 1000000 in
theorem rWaits (b : Int) (p1 : Option Addr) (n1 p2 : Nat) (s1 : Option Addr) (n2 s2 : Nat) (w1 : Option Addr) (n3 w2 : Nat) (t1 : Option Addr) (n4 t2 : Nat) (bg bk : Bool) (nx hb : Int) (h1 : Option Addr) (n5 h2 : Nat) (c : Int) (ws : List Wtr) (w : World) (hr : RowAt w (.slice w1 n3 w2) n3 (flatW ws)) (hn : ws.length = n3) (hlen : n3 ≤ maxLen) :
    Calls Tryz.prog 66 #[.agg #[.int .i64 b, .slice p1 n1 p2, .slice s1 n2 s2, .slice w1 n3 w2, .slice t1 n4 t2, .bool bg, .bool bk, .int .i64 nx, .int .i64 hb, .slice h1 n5 h2], .int .i64 c] w fun e w' => e = .returned (.int .i64 (optI (ws.findIdx? (isCliW c)))) ∧ Below w.heap.size w w' := by
  unfold maxLen at hlen
  have HR : Hid (RowAt (w.alloc (.cells #[.int .i64 b, .slice p1 n1 p2, .slice s1 n2 s2, .slice w1 n3 w2, .slice t1 n4 t2, .bool bg, .bool bk, .int .i64 nx, .int .i64 hb, .slice h1 n5 h2] 38)) (.slice w1 n3 w2) n3 (flatW ws) ∧ ws.length = n3 ∧ (w.alloc (.cells #[.int .i64 b, .slice p1 n1 p2, .slice s1 n2 s2, .slice w1 n3 w2, .slice t1 n4 t2, .bool bg, .bool bk, .int .i64 nx, .int .i64 hb, .slice h1 n5 h2] 38)).heap[w.heap.size]? = some (.cells #[.int .i64 b, .slice p1 n1 p2, .slice s1 n2 s2, .slice w1 n3 w2, .slice t1 n4 t2, .bool bg, .bool bk, .int .i64 nx, .int .i64 hb, .slice h1 n5 h2] 38)) := ⟨hr.nx (nx_alloc _ _), hn, heap_alloc_at _ _ rfl⟩
  clear hr hn
  go_enter Tryz.func66, Tryz.ntmps66
  go_wp2_with fail
  go_loopw [5] (fun i wr => ∃ k : Nat, k ≤ n3 ∧ i = .int .i64 k ∧ Hid (∀ y ∈ ws.take k, (isCliW c) y = false) ∧ Below (w.alloc (.cells #[.int .i64 b, .slice p1 n1 p2, .slice s1 n2 s2, .slice w1 n3 w2, .slice t1 n4 t2, .bool bg, .bool bk, .int .i64 nx, .int .i64 hb, .slice h1 n5 h2] 38)).heap.size (w.alloc (.cells #[.int .i64 b, .slice p1 n1 p2, .slice s1 n2 s2, .slice w1 n3 w2, .slice t1 n4 t2, .bool bg, .bool bk, .int .i64 nx, .int .i64 hb, .slice h1 n5 h2] 38)) wr) (fun i _ => n3 - (intOf i).toNat)
  case atStart => exact ⟨0, Nat.zero_le _, rfl, by intro y hy; simp at hy, Below.refl _ _⟩
  case round =>
    obtain ⟨k, hk, rfl, HT, hbel⟩ := hrel
    have hbx : wr.heap[w.heap.size]? = some (.cells #[.int .i64 b, .slice p1 n1 p2, .slice s1 n2 s2, .slice w1 n3 w2, .slice t1 n4 t2, .bool bg, .bool bk, .int .i64 nx, .int .i64 hb, .slice h1 n5 h2] 38) := (hbel.block _ (by simp)).trans HR.out.2.2
    have HB : Hid (Below w.heap.size w wr) := nx_trans (nx_alloc _ _) hbel
    have hcell : wr.cell? ⟨w.heap.size, 3, none⟩ = some (.slice w1 n3 w2) := by simp [World.cell?, hbx]
    by_cases hlt : k < n3
    · obtain ⟨⟨x0, x1⟩, hp⟩ : ∃ p, ws[k]? = some p := ⟨_, List.getElem?_eq_getElem (by rw [HR.out.2.1]; exact hlt)⟩
      obtain ⟨bl, off, hao, hbl, c0, c1⟩ := wt_at (HR.out.1.nx hbel) hp
      subst hao
      simp only at c0 c1
      have hlti : (k : Int) < (n3 : Int) := by omega
      cases hq : (x0 == c) with
      | true =>
        have HH : Hid (ws.findIdx? (isCliW c) = some k) := find_hit HT.out hp (by show (x0 == c) = true; exact hq)
        clear hp hbx
        go_wp2_with fail
        go_ret
        exact ⟨by rw [HH.out]; rfl, HB.out⟩
      | false =>
        have HN : Hid (∀ y ∈ ws.take (k + 1), (isCliW c) y = false) := take_next HT.out hp (by show (x0 == c) = false; exact hq)
        clear hp hbx
        go_wp2_with fail
        go_roundw
        case rel => exact ⟨k + 1, by omega, by go_num, HN.out, hbel⟩
        case measure => simp [intOf]; omega
    · have HM : Hid (ws.findIdx? (isCliW c) = none) := find_miss (fun y hy => HT.out y (by rw [List.take_of_length_le (by rw [HR.out.2.1]; omega)]; exact hy))
      clear hbx
      go_wp2_with fail
      go_ret
      exact ⟨by rw [HM.out]; rfl, HB.out⟩

set_option maxRecDepth 20000 in
set_option maxHeartbeats 1000000 in
theorem rAt (b : Int) (p1 : Option Addr) (n1 p2 : Nat) (name : ByteArray) (ps : List Pl) (w : World) (hr : RowAt w (.slice p1 n1 p2) n1 (flatP ps)) (hn : ps.length = n1) (hlen : n1 ≤ maxLen) :
    Calls Tryz.prog 67 #[.agg #[.int .i64 b, .slice p1 n1 p2], .string name] w fun e w' => e = .returned (.int .i64 (optI (ps.findIdx? (isNameP name)))) ∧ Below w.heap.size w w' := by
  unfold maxLen at hlen
  have HR : Hid (RowAt (w.alloc (bTab b (.slice p1 n1 p2))) (.slice p1 n1 p2) n1 (flatP ps) ∧ ps.length = n1 ∧ (w.alloc (bTab b (.slice p1 n1 p2))).heap[w.heap.size]? = some (bTab b (.slice p1 n1 p2))) := ⟨hr.nx (nx_alloc _ _), hn, heap_alloc_at _ _ rfl⟩
  clear hr hn
  go_enter Tryz.func67, Tryz.ntmps67
  go_wp2_with fail
  go_loopw [5] (fun i wr => ∃ k : Nat, k ≤ n1 ∧ i = .int .i64 k ∧ Hid (∀ y ∈ ps.take k, (isNameP name) y = false) ∧ Below (w.alloc (bTab b (.slice p1 n1 p2))).heap.size (w.alloc (bTab b (.slice p1 n1 p2))) wr) (fun i _ => n1 - (intOf i).toNat)
  case atStart => exact ⟨0, Nat.zero_le _, rfl, by intro y hy; simp at hy, Below.refl _ _⟩
  case round =>
    obtain ⟨k, hk, rfl, HT, hbel⟩ := hrel
    have hbx : wr.heap[w.heap.size]? = some (bTab b (.slice p1 n1 p2)) := (hbel.block _ (by simp)).trans HR.out.2.2
    have HB : Hid (Below w.heap.size w wr) := nx_trans (nx_alloc _ _) hbel
    have hcell : wr.cell? ⟨w.heap.size, 1, none⟩ = some (.slice p1 n1 p2) := by simp [World.cell?, hbx]
    by_cases hlt : k < n1
    · obtain ⟨⟨x0, x1, x2, x3⟩, hp⟩ : ∃ p, ps[k]? = some p := ⟨_, List.getElem?_eq_getElem (by rw [HR.out.2.1]; exact hlt)⟩
      obtain ⟨bl, off, hao, hbl, c0, c1, c2, c3⟩ := pool_at (HR.out.1.nx hbel) hp
      subst hao
      simp only at c0 c1 c2 c3
      have hlti : (k : Int) < (n1 : Int) := by omega
      cases hq : (x0.toList == name.toList) with
      | true =>
        have HH : Hid (ps.findIdx? (isNameP name) = some k) := find_hit HT.out hp (by show (x0.toList == name.toList) = true; exact hq)
        clear hp hbx
        go_wp2_with fail
        go_ret
        exact ⟨by rw [HH.out]; rfl, HB.out⟩
      | false =>
        have HN : Hid (∀ y ∈ ps.take (k + 1), (isNameP name) y = false) := take_next HT.out hp (by show (x0.toList == name.toList) = false; exact hq)
        clear hp hbx
        go_wp2_with fail
        go_roundw
        case rel => exact ⟨k + 1, by omega, by go_num, HN.out, hbel⟩
        case measure => simp [intOf]; omega
    · have HM : Hid (ps.findIdx? (isNameP name) = none) := find_miss (fun y hy => HT.out y (by rw [List.take_of_length_le (by rw [HR.out.2.1]; omega)]; exact hy))
      clear hbx
      go_wp2_with fail
      go_ret
      exact ⟨by rw [HM.out]; rfl, HB.out⟩

set_option maxRecDepth 20000 in
set_option maxHeartbeats 1000000 in
theorem rCount (b : Int) (p1 : Option Addr) (n1 p2 : Nat) (s1 : Option Addr) (n2 s2 : Nat) (w1 : Option Addr) (n3 w2 : Nat) (t1 : Option Addr) (n4 t2 : Nat) (bg bk : Bool) (nx hb : Int) (h1 : Option Addr) (n5 h2 : Nat) (pool : ByteArray) (ss : List Srv) (w : World) (hr : RowAt w (.slice s1 n2 s2) n2 (flatV ss)) (hn : ss.length = n2) (hlen : n2 ≤ maxLen) :
    Calls Tryz.prog 86 #[.agg #[.int .i64 b, .slice p1 n1 p2, .slice s1 n2 s2, .slice w1 n3 w2, .slice t1 n4 t2, .bool bg, .bool bk, .int .i64 nx, .int .i64 hb, .slice h1 n5 h2], .string pool] w fun e w' => e = .returned (.int .i64 (cntG (isPoolV pool) ss : Int)) ∧ Below w.heap.size w w' := by
  unfold maxLen at hlen
  have HR : Hid (RowAt (w.alloc (.cells #[.int .i64 b, .slice p1 n1 p2, .slice s1 n2 s2, .slice w1 n3 w2, .slice t1 n4 t2, .bool bg, .bool bk, .int .i64 nx, .int .i64 hb, .slice h1 n5 h2] 38)) (.slice s1 n2 s2) n2 (flatV ss) ∧ ss.length = n2 ∧ (w.alloc (.cells #[.int .i64 b, .slice p1 n1 p2, .slice s1 n2 s2, .slice w1 n3 w2, .slice t1 n4 t2, .bool bg, .bool bk, .int .i64 nx, .int .i64 hb, .slice h1 n5 h2] 38)).heap[w.heap.size]? = some (.cells #[.int .i64 b, .slice p1 n1 p2, .slice s1 n2 s2, .slice w1 n3 w2, .slice t1 n4 t2, .bool bg, .bool bk, .int .i64 nx, .int .i64 hb, .slice h1 n5 h2] 38)) := ⟨hr.nx (nx_alloc _ _), hn, heap_alloc_at _ _ rfl⟩
  clear hr hn
  go_enter Tryz.func86, Tryz.ntmps86
  go_wp2_with fail
  go_loopw [5, 6] (fun q i wr => ∃ k m : Nat, k ≤ n2 ∧ m ≤ k ∧ i = .int .i64 k ∧ q = .int .i64 m ∧ Hid (cntG (isPoolV pool) (ss.take k) = m) ∧ Below (w.alloc (.cells #[.int .i64 b, .slice p1 n1 p2, .slice s1 n2 s2, .slice w1 n3 w2, .slice t1 n4 t2, .bool bg, .bool bk, .int .i64 nx, .int .i64 hb, .slice h1 n5 h2] 38)).heap.size (w.alloc (.cells #[.int .i64 b, .slice p1 n1 p2, .slice s1 n2 s2, .slice w1 n3 w2, .slice t1 n4 t2, .bool bg, .bool bk, .int .i64 nx, .int .i64 hb, .slice h1 n5 h2] 38)) wr) (fun _ i _ => n2 - (intOf i).toNat)
  case atStart => exact ⟨0, 0, Nat.zero_le _, Nat.le_refl _, rfl, rfl, by show cntG _ _ = 0; simp [cntG], Below.refl _ _⟩
  case round =>
    obtain ⟨k, m, hk, hm, rfl, rfl, HT, hbel⟩ := hrel
    have hbx : wr.heap[w.heap.size]? = some (.cells #[.int .i64 b, .slice p1 n1 p2, .slice s1 n2 s2, .slice w1 n3 w2, .slice t1 n4 t2, .bool bg, .bool bk, .int .i64 nx, .int .i64 hb, .slice h1 n5 h2] 38) := (hbel.block _ (by simp)).trans HR.out.2.2
    have HB : Hid (Below w.heap.size w wr) := nx_trans (nx_alloc _ _) hbel
    have hcell : wr.cell? ⟨w.heap.size, 2, none⟩ = some (.slice s1 n2 s2) := by simp [World.cell?, hbx]
    by_cases hlt : k < n2
    · obtain ⟨⟨x0, x1, x2, x3⟩, hp⟩ : ∃ p, ss[k]? = some p := ⟨_, List.getElem?_eq_getElem (by rw [HR.out.2.1]; exact hlt)⟩
      obtain ⟨bl, off, hao, hbl, c0, c1, c2, c3⟩ := sv_at (HR.out.1.nx hbel) hp
      subst hao
      simp only at c0 c1 c2 c3
      have hlti : (k : Int) < (n2 : Int) := by omega
      have hnx := cntG_next (p := isPoolV pool) hp
      rw [HT.out] at hnx
      cases hq : (x1.toList == pool.toList) with
      | true =>
        have HN : Hid (cntG (isPoolV pool) (ss.take (k + 1)) = m + 1) := by
          have hq' : (isPoolV pool) ⟨x0, x1, x2, x3⟩ = true := hq
          show _ = _
          rw [hnx, if_pos hq']
        clear hp hbx hnx
        go_wp2_with fail
        go_roundw
        case rel => exact ⟨k + 1, m + 1, by omega, by omega, by go_num, by go_num, HN.out, hbel⟩
        case measure => simp [intOf]; omega
      | false =>
        have HN : Hid (cntG (isPoolV pool) (ss.take (k + 1)) = m) := by
          show _ = _
          rw [hnx, if_neg (fun h => by rw [show (isPoolV pool) _ = (x1.toList == pool.toList) from rfl, hq] at h; simp at h)]
          rfl
        clear hp hbx hnx
        go_wp2_with fail
        go_roundw
        case rel => exact ⟨k + 1, m, by omega, by omega, by go_num, rfl, HN.out, hbel⟩
        case measure => simp [intOf]; omega
    · have HM : Hid (cntG (isPoolV pool) ss = m) := by
        show _ = _
        rw [← HT.out, List.take_of_length_le (by rw [HR.out.2.1]; omega)]
      clear hbx
      go_wp2_with fail
      go_ret
      exact ⟨by rw [HM.out]; rfl, HB.out⟩

set_option maxRecDepth 20000 in
set_option maxHeartbeats 1000000 in
theorem rWaiting (b : Int) (p1 : Option Addr) (n1 p2 : Nat) (s1 : Option Addr) (n2 s2 : Nat) (w1 : Option Addr) (n3 w2 : Nat) (t1 : Option Addr) (n4 t2 : Nat) (bg bk : Bool) (nx hb : Int) (h1 : Option Addr) (n5 h2 : Nat) (pool : ByteArray) (ws : List Wtr) (w : World) (hr : RowAt w (.slice w1 n3 w2) n3 (flatW ws)) (hn : ws.length = n3) (hlen : n3 ≤ maxLen) :
    Calls Tryz.prog 68 #[.agg #[.int .i64 b, .slice p1 n1 p2, .slice s1 n2 s2, .slice w1 n3 w2, .slice t1 n4 t2, .bool bg, .bool bk, .int .i64 nx, .int .i64 hb, .slice h1 n5 h2], .string pool] w fun e w' => e = .returned (.int .i64 (cntG (isPoolW pool) ws : Int)) ∧ Below w.heap.size w w' := by
  unfold maxLen at hlen
  have HR : Hid (RowAt (w.alloc (.cells #[.int .i64 b, .slice p1 n1 p2, .slice s1 n2 s2, .slice w1 n3 w2, .slice t1 n4 t2, .bool bg, .bool bk, .int .i64 nx, .int .i64 hb, .slice h1 n5 h2] 38)) (.slice w1 n3 w2) n3 (flatW ws) ∧ ws.length = n3 ∧ (w.alloc (.cells #[.int .i64 b, .slice p1 n1 p2, .slice s1 n2 s2, .slice w1 n3 w2, .slice t1 n4 t2, .bool bg, .bool bk, .int .i64 nx, .int .i64 hb, .slice h1 n5 h2] 38)).heap[w.heap.size]? = some (.cells #[.int .i64 b, .slice p1 n1 p2, .slice s1 n2 s2, .slice w1 n3 w2, .slice t1 n4 t2, .bool bg, .bool bk, .int .i64 nx, .int .i64 hb, .slice h1 n5 h2] 38)) := ⟨hr.nx (nx_alloc _ _), hn, heap_alloc_at _ _ rfl⟩
  clear hr hn
  go_enter Tryz.func68, Tryz.ntmps68
  go_wp2_with fail
  go_loopw [5, 6] (fun q i wr => ∃ k m : Nat, k ≤ n3 ∧ m ≤ k ∧ i = .int .i64 k ∧ q = .int .i64 m ∧ Hid (cntG (isPoolW pool) (ws.take k) = m) ∧ Below (w.alloc (.cells #[.int .i64 b, .slice p1 n1 p2, .slice s1 n2 s2, .slice w1 n3 w2, .slice t1 n4 t2, .bool bg, .bool bk, .int .i64 nx, .int .i64 hb, .slice h1 n5 h2] 38)).heap.size (w.alloc (.cells #[.int .i64 b, .slice p1 n1 p2, .slice s1 n2 s2, .slice w1 n3 w2, .slice t1 n4 t2, .bool bg, .bool bk, .int .i64 nx, .int .i64 hb, .slice h1 n5 h2] 38)) wr) (fun _ i _ => n3 - (intOf i).toNat)
  case atStart => exact ⟨0, 0, Nat.zero_le _, Nat.le_refl _, rfl, rfl, by show cntG _ _ = 0; simp [cntG], Below.refl _ _⟩
  case round =>
    obtain ⟨k, m, hk, hm, rfl, rfl, HT, hbel⟩ := hrel
    have hbx : wr.heap[w.heap.size]? = some (.cells #[.int .i64 b, .slice p1 n1 p2, .slice s1 n2 s2, .slice w1 n3 w2, .slice t1 n4 t2, .bool bg, .bool bk, .int .i64 nx, .int .i64 hb, .slice h1 n5 h2] 38) := (hbel.block _ (by simp)).trans HR.out.2.2
    have HB : Hid (Below w.heap.size w wr) := nx_trans (nx_alloc _ _) hbel
    have hcell : wr.cell? ⟨w.heap.size, 3, none⟩ = some (.slice w1 n3 w2) := by simp [World.cell?, hbx]
    by_cases hlt : k < n3
    · obtain ⟨⟨x0, x1⟩, hp⟩ : ∃ p, ws[k]? = some p := ⟨_, List.getElem?_eq_getElem (by rw [HR.out.2.1]; exact hlt)⟩
      obtain ⟨bl, off, hao, hbl, c0, c1⟩ := wt_at (HR.out.1.nx hbel) hp
      subst hao
      simp only at c0 c1
      have hlti : (k : Int) < (n3 : Int) := by omega
      have hnx := cntG_next (p := isPoolW pool) hp
      rw [HT.out] at hnx
      cases hq : (x1.toList == pool.toList) with
      | true =>
        have HN : Hid (cntG (isPoolW pool) (ws.take (k + 1)) = m + 1) := by
          have hq' : (isPoolW pool) ⟨x0, x1⟩ = true := hq
          show _ = _
          rw [hnx, if_pos hq']
        clear hp hbx hnx
        go_wp2_with fail
        go_roundw
        case rel => exact ⟨k + 1, m + 1, by omega, by omega, by go_num, by go_num, HN.out, hbel⟩
        case measure => simp [intOf]; omega
      | false =>
        have HN : Hid (cntG (isPoolW pool) (ws.take (k + 1)) = m) := by
          show _ = _
          rw [hnx, if_neg (fun h => by rw [show (isPoolW pool) _ = (x1.toList == pool.toList) from rfl, hq] at h; simp at h)]
          rfl
        clear hp hbx hnx
        go_wp2_with fail
        go_roundw
        case rel => exact ⟨k + 1, m, by omega, by omega, by go_num, rfl, HN.out, hbel⟩
        case measure => simp [intOf]; omega
    · have HM : Hid (cntG (isPoolW pool) ws = m) := by
        show _ = _
        rw [← HT.out, List.take_of_length_le (by rw [HR.out.2.1]; omega)]
      clear hbx
      go_wp2_with fail
      go_ret
      exact ⟨by rw [HM.out]; rfl, HB.out⟩

set_option maxRecDepth 20000 in
set_option maxHeartbeats 1000000 in
theorem rIdle (b : Int) (p1 : Option Addr) (n1 p2 : Nat) (s1 : Option Addr) (n2 s2 : Nat) (w1 : Option Addr) (n3 w2 : Nat) (t1 : Option Addr) (n4 t2 : Nat) (bg bk : Bool) (nx hb : Int) (h1 : Option Addr) (n5 h2 : Nat) (pool : ByteArray) (all : Bool) (ss : List Srv) (w : World) (hr : RowAt w (.slice s1 n2 s2) n2 (flatV ss)) (hn : ss.length = n2) (hlen : n2 ≤ maxLen) :
    Calls Tryz.prog 126 #[.agg #[.int .i64 b, .slice p1 n1 p2, .slice s1 n2 s2, .slice w1 n3 w2, .slice t1 n4 t2, .bool bg, .bool bk, .int .i64 nx, .int .i64 hb, .slice h1 n5 h2], .string pool, .bool all] w fun e w' => e = .returned (.int .i64 (optI (ss.findIdx? (isIdle pool all)))) ∧ Below w.heap.size w w' := by
  unfold maxLen at hlen
  have HR : Hid (RowAt (w.alloc (.cells #[.int .i64 b, .slice p1 n1 p2, .slice s1 n2 s2, .slice w1 n3 w2, .slice t1 n4 t2, .bool bg, .bool bk, .int .i64 nx, .int .i64 hb, .slice h1 n5 h2] 38)) (.slice s1 n2 s2) n2 (flatV ss) ∧ ss.length = n2 ∧ (w.alloc (.cells #[.int .i64 b, .slice p1 n1 p2, .slice s1 n2 s2, .slice w1 n3 w2, .slice t1 n4 t2, .bool bg, .bool bk, .int .i64 nx, .int .i64 hb, .slice h1 n5 h2] 38)).heap[w.heap.size]? = some (.cells #[.int .i64 b, .slice p1 n1 p2, .slice s1 n2 s2, .slice w1 n3 w2, .slice t1 n4 t2, .bool bg, .bool bk, .int .i64 nx, .int .i64 hb, .slice h1 n5 h2] 38)) := ⟨hr.nx (nx_alloc _ _), hn, heap_alloc_at _ _ rfl⟩
  clear hr hn
  go_enter Tryz.func126, Tryz.ntmps126
  go_wp2_with fail
  go_loopw [7] (fun i wr => ∃ k : Nat, k ≤ n2 ∧ i = .int .i64 k ∧ Hid (∀ y ∈ ss.take k, (isIdle pool all) y = false) ∧ Below (w.alloc (.cells #[.int .i64 b, .slice p1 n1 p2, .slice s1 n2 s2, .slice w1 n3 w2, .slice t1 n4 t2, .bool bg, .bool bk, .int .i64 nx, .int .i64 hb, .slice h1 n5 h2] 38)).heap.size (w.alloc (.cells #[.int .i64 b, .slice p1 n1 p2, .slice s1 n2 s2, .slice w1 n3 w2, .slice t1 n4 t2, .bool bg, .bool bk, .int .i64 nx, .int .i64 hb, .slice h1 n5 h2] 38)) wr) (fun i _ => n2 - (intOf i).toNat)
  case atStart => exact ⟨0, Nat.zero_le _, rfl, by intro y hy; simp at hy, Below.refl _ _⟩
  case round =>
    obtain ⟨k, hk, rfl, HT, hbel⟩ := hrel
    have hbx : wr.heap[w.heap.size]? = some (.cells #[.int .i64 b, .slice p1 n1 p2, .slice s1 n2 s2, .slice w1 n3 w2, .slice t1 n4 t2, .bool bg, .bool bk, .int .i64 nx, .int .i64 hb, .slice h1 n5 h2] 38) := (hbel.block _ (by simp)).trans HR.out.2.2
    have HB : Hid (Below w.heap.size w wr) := nx_trans (nx_alloc _ _) hbel
    have hcell : wr.cell? ⟨w.heap.size, 2, none⟩ = some (.slice s1 n2 s2) := by simp [World.cell?, hbx]
    by_cases hlt : k < n2
    · obtain ⟨⟨x0, x1, x2, x3⟩, hp⟩ : ∃ p, ss[k]? = some p := ⟨_, List.getElem?_eq_getElem (by rw [HR.out.2.1]; exact hlt)⟩
      obtain ⟨bl, off, hao, hbl, c0, c1, c2, c3⟩ := sv_at (HR.out.1.nx hbel) hp
      subst hao
      simp only at c0 c1 c2 c3
      have hlti : (k : Int) < (n2 : Int) := by omega
      have hbA := hbel.alloc hbel.size (.cells #[.int .i64 x0, .string x1, .int .i64 x2, .int .i64 x3] 74)
      have HBA := hideIt (nx_trans (nx_alloc _ _) hbA)
      cases hq : isIdle pool all ⟨x0, x1, x2, x3⟩ with
      | true =>
        have HH : Hid (ss.findIdx? (isIdle pool all) = some k) := find_hit HT.out hp hq
        simp only [isIdle, Bool.and_eq_true, Bool.or_eq_true] at hq
        obtain ⟨hq1, hq2⟩ := hq
        clear hp hbx
        cases all with
        | true =>
          go_wp2_with fail
          go_ret
          exact ⟨by rw [HH.out]; rfl, HBA.out⟩
        | false =>
          have hq3 : (x1.toList == pool.toList) = true := by simpa using hq2
          go_wp2_with fail
          go_ret
          exact ⟨by rw [HH.out]; rfl, HBA.out⟩
      | false =>
        have HN : Hid (∀ y ∈ ss.take (k + 1), (isIdle pool all) y = false) := take_next HT.out hp hq
        clear hp hbx
        cases h3 : (x3 == 0) with
        | false =>
          clear hq
          go_wp2_with fail
          go_roundw
          case rel => exact ⟨k + 1, by omega, by go_num, HN.out, hbA⟩
          case measure => simp [intOf]; omega
        | true =>
          have hall : all = false := by cases all <;> simp [isIdle, h3] at hq ⊢
          have hq3 : (x1.toList == pool.toList) = false := by simpa [isIdle, h3, hall] using hq
          subst hall
          clear hq
          go_wp2_with fail
          go_roundw
          case rel => exact ⟨k + 1, by omega, by go_num, HN.out, hbA⟩
          case measure => simp [intOf]; omega
    · have HM : Hid (ss.findIdx? (isIdle pool all) = none) := find_miss (fun y hy => HT.out y (by rw [List.take_of_length_le (by rw [HR.out.2.1]; omega)]; exact hy))
      clear hbx
      go_wp2_with fail
      go_ret
      exact ⟨by rw [HM.out]; rfl, HB.out⟩

end Lw
end Go.Proofs.YtmmmjpkhnbfnbaaGreat
namespace Go.Proofs.YtmmmjpkhnbfnbaaGreat
open Go.RowKit
namespace Lw
open Co

/-- Tabled's memory: what came in, the result's block, the table that is made -/
structure TS (w : World) (b : Int) (sv : Value) (v : Value) (q : Nat) (acc : List Pl) (wr : World) : Prop where
  h0 : wr.heap[w.heap.size]? = some (bTab b sv)
  h1 : wr.heap[w.heap.size + 1]? = some (bTab 0 (.slice none 0 0))
  h2 : wr.heap[w.heap.size + 2]? = some (bTab b v)
  own : wr.ownsRow (w.heap.size + 3) 70 4 v q (flatP acc)
  bel : Below w.heap.size w wr
  sz : w.heap.size + 3 ≤ wr.heap.size
theorem TS.drew {w : World} {b : Int} {sv v : Value} {q : Nat} {acc : List Pl} {wr : World} (h : TS w b sv v q acc wr) : TS w b sv v q acc wr.drew := ⟨h.h0, h.h1, h.h2, h.own, h.bel.drew, h.sz⟩
theorem TS.app {w wr w6 : World} {b : Int} {sv v v' : Value} {q : Nat} {acc : List Pl} {x : Pl} {o : Obj} (h : TS w b sv v q acc wr)
    (hg : (wr.alloc o).grownBy w6 v.ownBlock) (hown : w6.ownsRow (w.heap.size + 3) 70 4 v' (q + 1) (flatP acc ++ [.string x.nm, .int .i64 x.sz, .int .i64 x.wt, .int .i64 x.fr])) :
    TS w b sv v' (q + 1) (acc ++ [x]) (w6.setCell ⟨w.heap.size + 2, 1, none⟩ v') := by
  have hz := h.sz
  have hlow : ∀ k, k < w.heap.size + 3 → w6.heap[k]? = wr.heap[k]? := by
    intro k hk'
    refine (hg.block k (by simp; omega) ?_).trans (heap_alloc_lt' _ _ (by omega))
    intro e
    have := (h.own.lt k e.symm).1
    omega
  have g2 : w6.heap[w.heap.size + 2]? = some (bTab b v) := (hlow _ (by omega)).trans h.h2
  refine ⟨?_, ?_, set_heap _ _ _ _ _ _ g2, ?_, ?_, ?_⟩
  · exact (Below.heap_setCell _ _ _ _ (by show w.heap.size ≠ w.heap.size + 2; omega)).trans ((hlow _ (by omega)).trans h.h0)
  · exact (Below.heap_setCell _ _ _ _ (by show w.heap.size + 1 ≠ w.heap.size + 2; omega)).trans ((hlow _ (by omega)).trans h.h1)
  · refine ownsRow_setCell_below (by rw [flatP_append]; exact hown) (by show w.heap.size + 2 < _; omega) _
  · refine Below.setCell ?_ (by show w.heap.size ≤ w.heap.size + 2; omega) _
    exact (h.bel.alloc h.bel.size _).grown hg (by simp; omega) (fun g hg' => by have := (h.own.lt g hg').1; omega)
  · have := hg.size
    simp at this ⊢
    omega
/-- the cells that the region reads, in whatever world has kept all but the list's own block -/
theorem TS.cells {w wd : World} {b : Int} {n pc q k bl off : Nat} {v : Value} {acc : List Pl} {x : Pl} (h : TS w b (.slice (some ⟨bl, off, none⟩) n pc) v q acc wd) (hbl : bl < w.heap.size)
    (hc : w.cell? ⟨bl, off + k * 4, none⟩ = some (.string x.nm) ∧ w.cell? ⟨bl, off + k * 4 + 1, none⟩ = some (.int .i64 x.sz) ∧ w.cell? ⟨bl, off + k * 4 + 2, none⟩ = some (.int .i64 x.wt) ∧ w.cell? ⟨bl, off + k * 4 + 3, none⟩ = some (.int .i64 x.fr)) :
    ∀ w1 : World, (∀ k, k < wd.heap.size → some k ≠ v.ownBlock → w1.heap[k]? = wd.heap[k]?) →
      w1.cell? ⟨w.heap.size + 2, 1, none⟩ = some v ∧ w1.frozen? ⟨w.heap.size + 2, 1, none⟩ = false ∧ w1.cell? ⟨w.heap.size, 1, none⟩ = some (.slice (some ⟨bl, off, none⟩) n pc) ∧
      w1.cell? ⟨bl, off + k * 4, none⟩ = some (.string x.nm) ∧ w1.cell? ⟨bl, off + k * 4 + 1, none⟩ = some (.int .i64 x.sz) ∧ w1.cell? ⟨bl, off + k * 4 + 2, none⟩ = some (.int .i64 x.wt) ∧ w1.cell? ⟨bl, off + k * 4 + 3, none⟩ = some (.int .i64 x.fr) := by
  intro w1 hw
  have hz := h.sz
  have hlow : ∀ j, j < w.heap.size + 3 → w1.heap[j]? = wd.heap[j]? := by
    intro j hj
    refine hw j (by omega) (fun e => ?_)
    have := (h.own.lt j e.symm).1
    omega
  have g2 : w1.heap[w.heap.size + 2]? = some (bTab b v) := (hlow _ (by omega)).trans h.h2
  have g0 : w1.heap[w.heap.size]? = some (bTab b (.slice (some ⟨bl, off, none⟩) n pc)) := (hlow _ (by omega)).trans h.h0
  have gb : w1.heap[bl]? = w.heap[bl]? := (hlow _ (by omega)).trans (h.bel.block _ hbl)
  exact ⟨(blk2 g2).2.1, (blk2 g2).2.2 1, (blk2 g0).2.1, (World.cell?_of_block gb).trans hc.1, (World.cell?_of_block gb).trans hc.2.1, (World.cell?_of_block gb).trans hc.2.2.1, (World.cell?_of_block gb).trans hc.2.2.2⟩

set_option maxRecDepth 20000 in
set_option maxHeartbeats 4000000 in
theorem tabled_any (b : Int) (ps : List Pl) (vo : Option Addr) (n vc : Nat) (w : World) (hr : RowAt w (.slice vo n vc) n (flatP ps)) (hn : ps.length = n) (hq : n ≤ 1099511627776) :
    Calls Tryz.prog 47 #[.agg #[.int .i64 b, .slice vo n vc]] w fun e w' => ∃ po pc, e = .returned (.agg #[.int .i64 b, .slice po n pc]) ∧ w'.ownsRow w.heap.size 70 4 (.slice po n pc) n (flatP ps) ∧ Below w.heap.size w w' := by
  obtain ⟨t0, hi, hz0, hz1, hz2⟩ := info_parts info_pl
  have HR : Hid (RowAt w (.slice vo n vc) n (flatP ps) ∧ ps.length = n) := ⟨hr, hn⟩
  clear hr hn
  go_enter Tryz.func47, Tryz.ntmps47
  go_wp2_with fail
  go_loopw [4] (fun i wr => ∃ (k : Nat) (po : Option Addr) (pc : Nat), k ≤ n ∧ i = .int .i64 k ∧ Hid (TS w b (.slice vo n vc) (.slice po k pc) k (ps.take k) wr)) (fun i _ => n - (intOf i).toNat)
  case atStart =>
    refine ⟨0, none, 0, Nat.zero_le _, rfl, ?_, ?_, ?_, World.ownsRow_nil _ _ _ _, nx_trans (nx_trans (nx_alloc _ _) (nx_alloc _ _)) (nx_alloc _ _), by simp⟩
    · exact (heap_alloc_lt _ _ (by simp; omega)).trans ((heap_alloc_lt _ _ (by simp)).trans (heap_alloc_at _ _ rfl))
    · exact (heap_alloc_lt _ _ (by simp)).trans (heap_alloc_at _ _ (by simp))
    · exact heap_alloc_at _ _ (by simp)
  case round =>
    obtain ⟨k, po, pc, hk, rfl, HS⟩ := hrel
    have hsz : w.heap.size + 3 ≤ wr.heap.size := HS.out.sz
    by_cases hlt : k < n
    · obtain ⟨x, hx⟩ : ∃ x, ps[k]? = some x := ⟨_, List.getElem?_eq_getElem (by rw [HR.out.2]; exact hlt)⟩
      obtain ⟨bl, off, rfl, hbl, d0, d1, d2, d3⟩ := pool_at HR.out.1 hx
      have HX : Hid (ps.take (k + 1) = ps.take k ++ [x]) := by
        obtain ⟨hk', e⟩ := List.getElem?_eq_some_iff.1 hx
        show _ = _
        rw [List.take_succ_eq_append_getElem hk', e]
      obtain ⟨nm', sz', wt', fr'⟩ := x
      have HK := hideIt (HS.out.cells (x := ⟨nm', sz', wt', fr'⟩) hbl ⟨d0, d1, d2, d3⟩)
      simp only at HK
      clear d0 d1 d2 d3 hx
      have hlti : (k : Int) < (n : Int) := by omega
      have h0i : (0 : Int) ≤ (k : Int) := by omega
      obtain ⟨s0, s1, s2, s3, s4, s5, s6⟩ := HK.out wr (fun _ _ _ => rfl)
      have hownd := HS.out.own
      have sA : ∀ o, (wr.alloc o).cell? ⟨w.heap.size + 2, 1, none⟩ = some (.slice po k pc) := fun o => (HK.out (wr.alloc o) (fun j hj _ => heap_alloc_lt' _ _ hj)).1
      go_upto_region 5 with fail
      go_region_law
        ((refine step_append_lies _ (by rfl) (.tmp 16) (.tmp 22) 29 (by rfl) (w.heap.size + 3) 70 t0 _ 4 40 Tryz.underlying29 hi hz0 hz1 hz2 (by rfl) (by decide) _ k (flatP (ps.take k)) (by rfl) (hownd.alloc _) ⟨wr.heap.size, 0, none⟩ 1 1 [.string nm', .int .i64 sz', .int .i64 wt', .int .i64 fr'] (by rfl) (by rfl) (cells_new _ [.string nm', .int .i64 sz', .int .i64 wt', .int .i64 fr'] _) (by intro u hu; simp at hu; rcases hu with rfl | rfl | rfl | rfl <;> rfl) (by omega) (by unfold maxLen; omega) (by omega) (by simp; omega) (wr.heap.size + 1) (by simp) ?_; intro g6 cap6 w6 hown6 hgrow6 hat6 hlt6; obtain ⟨q0, q1, _⟩ := HK.out w6 (fun j hj hne => (hgrow6.block j (by simp; omega) hne).trans (heap_alloc_lt' _ _ hj))))
      all_goals
        have HJ6 := hideIt (TS.app (x := Pl.mk nm' sz' wt' fr') HS.out.drew hgrow6 hown6)
        rw [← HX.out] at HJ6
        clear hown6 hgrow6 hat6 q0 q1 s0 s1 s2 s3 s4 s5 s6 sA hownd
        go_wp2_with fail
        go_roundw
        case rel => exact ⟨k + 1, some ⟨g6, 0, none⟩, cap6, by omega, by go_num, HJ6.out⟩
        case measure => simp [intOf]; omega
    · obtain rfl : k = n := by omega
      obtain ⟨a0, a1, az⟩ := blk2 HS.out.h0
      obtain ⟨b0, b1, bz⟩ := blk2 HS.out.h1
      obtain ⟨c0, c1, cz⟩ := blk2 HS.out.h2
      have HO : Hid (wr.ownsRow (w.heap.size + 3) 70 4 (.slice po k pc) k (flatP ps) ∧ Below w.heap.size w wr) := by
        refine ⟨?_, HS.out.bel⟩
        have := HS.out.own
        rwa [List.take_of_length_le (by rw [HR.out.2]; exact Nat.le_refl _)] at this
      go_wp2_with fail
      refine bodyPost_ret (v := .agg #[.int .i64 b, .slice po k pc]) (by simp [results, Tryz.results47, go_sem, b0, b1]) rfl ⟨po, pc, rfl, ?_, ?_⟩
      · exact own_mono (ownsRow_setCell_below (ownsRow_setCell_below HO.out.1 (by show w.heap.size + 1 < _; omega) _) (by show w.heap.size + 1 < _; omega) _) (by omega)
      · exact (HO.out.2.setCell (by show w.heap.size ≤ w.heap.size + 1; omega) _).setCell (by show w.heap.size ≤ w.heap.size + 1; omega) _
end Lw
end Go.Proofs.YtmmmjpkhnbfnbaaGreat
