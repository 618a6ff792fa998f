import Derived.Test.YtohbonfngeblkaaGreatMgN
import Derived.Test.YtohbonfngeblkaaGreatMgR
import Derived.Test.YtohbonfngeblkaaGreatMgS
import Derived.BigQuiet
namespace Go.Proofs.YtohbonfngeblkaaGreat
open Go.RowKit
namespace Lw
open Co
def holdL (c : Int) (ss : List Srv) : Int := match ss.find? (isCliV c) with | some s => s.id | none => 0
theorem holdP_eq (T : Sta) (c : Int) : holdP T c = holdL c T.srv := rfl
theorem findx_hit {α : Type} {p : α → Bool} {l : List α} {k : Nat} {x : α} (hn : ∀ y ∈ l.take k, p y = false) (hx : l[k]? = some x) (hp : p x = true) : l.find? p = some x := by
  obtain ⟨y, h1, h2⟩ := (find_idx p l).1 k (find_hit hn hx hp)
  rw [hx] at h1
  rw [h2, ← Option.some.inj h1]
theorem findx_miss {α : Type} {p : α → Bool} {l : List α} (hn : ∀ y ∈ l, p y = false) : l.find? p = none := List.find?_eq_none.2 (fun x hx => by rw [hn x hx]; simp)
set_option maxRecDepth 20000 in
set_option maxHeartbeats 1000000 in
theorem gHolds (b : Int) (p1 : Option Addr) (n1 p2 : Nat) (s1 : Option Addr) (n2 s2 : Nat) (w1 : Option Addr) (n3 w2 : Nat) (t1 : Option Addr) (n4 t2 : Nat) (bg bk : Bool) (c : Int) (ss : List Srv) (w : World) (hr : RowAt w (.slice s1 n2 s2) n2 (flatV ss)) (hn : ss.length = n2) (hlen : n2 ≤ maxLen) :
    Calls Tryz.prog 39 #[.agg #[.int .i64 b, .slice p1 n1 p2, .slice s1 n2 s2, .slice w1 n3 w2, .slice t1 n4 t2, .bool bg, .bool bk], .int .i64 c] w fun e w' => e = .returned (.int .i64 (holdL c ss)) ∧ Below w.heap.size w w' := by
  unfold maxLen at hlen
  have HR : Hid (RowAt (w.alloc (.cells #[.int .i64 b, .slice p1 n1 p2, .slice s1 n2 s2, .slice w1 n3 w2, .slice t1 n4 t2, .bool bg, .bool bk] 33)) (.slice s1 n2 s2) n2 (flatV ss) ∧ ss.length = n2 ∧ (w.alloc (.cells #[.int .i64 b, .slice p1 n1 p2, .slice s1 n2 s2, .slice w1 n3 w2, .slice t1 n4 t2, .bool bg, .bool bk] 33)).heap[w.heap.size]? = some (.cells #[.int .i64 b, .slice p1 n1 p2, .slice s1 n2 s2, .slice w1 n3 w2, .slice t1 n4 t2, .bool bg, .bool bk] 33)) := ⟨hr.nx (nx_alloc _ _), hn, heap_alloc_at _ _ rfl⟩
  clear hr hn
  go_enter Tryz.func39, Tryz.ntmps39
  go_wp2_with fail
  go_loopw [5] (fun i wr => ∃ k : Nat, k ≤ n2 ∧ i = .int .i64 k ∧ Hid (∀ y ∈ ss.take k, (isCliV c) y = false) ∧ Below (w.alloc (.cells #[.int .i64 b, .slice p1 n1 p2, .slice s1 n2 s2, .slice w1 n3 w2, .slice t1 n4 t2, .bool bg, .bool bk] 33)).heap.size (w.alloc (.cells #[.int .i64 b, .slice p1 n1 p2, .slice s1 n2 s2, .slice w1 n3 w2, .slice t1 n4 t2, .bool bg, .bool bk] 33)) wr) (fun i _ => n2 - (intOf i).toNat)
  case atStart => exact ⟨0, Nat.zero_le _, rfl, by intro y hy; simp at hy, Below.refl _ _⟩
  case round =>
    obtain ⟨k, hk, rfl, HT, hbel⟩ := hrel
    have hbx : wr.heap[w.heap.size]? = some (.cells #[.int .i64 b, .slice p1 n1 p2, .slice s1 n2 s2, .slice w1 n3 w2, .slice t1 n4 t2, .bool bg, .bool bk] 33) := (hbel.block _ (by simp)).trans HR.out.2.2
    have HB : Hid (Below w.heap.size w wr) := nx_trans (nx_alloc _ _) hbel
    have hcell : wr.cell? ⟨w.heap.size, 2, none⟩ = some (.slice s1 n2 s2) := by simp [World.cell?, hbx]
    by_cases hlt : k < n2
    · obtain ⟨⟨x0, x1, x2, x3⟩, hp⟩ : ∃ p, ss[k]? = some p := ⟨_, List.getElem?_eq_getElem (by rw [HR.out.2.1]; exact hlt)⟩
      obtain ⟨bl, off, hao, hbl, c0, c1, c2, c3⟩ := sv_at (HR.out.1.nx hbel) hp
      subst hao
      simp only at c0 c1 c2 c3
      have hlti : (k : Int) < (n2 : Int) := by omega
      cases hq : (x3 == c) with
      | true =>
        have HH : Hid (ss.find? (isCliV c) = some ⟨x0, x1, x2, x3⟩) := findx_hit HT.out hp (by show (x3 == c) = true; exact hq)
        clear hp hbx
        go_wp2_with fail
        go_ret
        exact ⟨by unfold holdL; rw [HH.out]; rfl, HB.out⟩
      | false =>
        have HN : Hid (∀ y ∈ ss.take (k + 1), (isCliV c) y = false) := take_next HT.out hp (by show (x3 == c) = false; exact hq)
        clear hp hbx
        go_wp2_with fail
        go_roundw
        case rel => exact ⟨k + 1, by omega, by go_num, HN.out, hbel⟩
        case measure => simp [intOf]; omega
    · have HM : Hid (ss.find? (isCliV c) = none) := findx_miss (fun y hy => HT.out y (by rw [List.take_of_length_le (by rw [HR.out.2.1]; omega)]; exact hy))
      clear hbx
      go_wp2_with fail
      go_ret
      exact ⟨by unfold holdL; rw [HM.out]; rfl, HB.out⟩
set_option maxRecDepth 20000 in
set_option maxHeartbeats 1000000 in
theorem gWaits (b : Int) (p1 : Option Addr) (n1 p2 : Nat) (s1 : Option Addr) (n2 s2 : Nat) (w1 : Option Addr) (n3 w2 : Nat) (t1 : Option Addr) (n4 t2 : Nat) (bg bk : Bool) (c : Int) (ws : List Wtr) (w : World) (hr : RowAt w (.slice w1 n3 w2) n3 (flatW ws)) (hn : ws.length = n3) (hlen : n3 ≤ maxLen) :
    Calls Tryz.prog 43 #[.agg #[.int .i64 b, .slice p1 n1 p2, .slice s1 n2 s2, .slice w1 n3 w2, .slice t1 n4 t2, .bool bg, .bool bk], .int .i64 c] w fun e w' => e = .returned (.int .i64 (optI (ws.findIdx? (isCliW c)))) ∧ Below w.heap.size w w' := by
  unfold maxLen at hlen
  have HR : Hid (RowAt (w.alloc (.cells #[.int .i64 b, .slice p1 n1 p2, .slice s1 n2 s2, .slice w1 n3 w2, .slice t1 n4 t2, .bool bg, .bool bk] 33)) (.slice w1 n3 w2) n3 (flatW ws) ∧ ws.length = n3 ∧ (w.alloc (.cells #[.int .i64 b, .slice p1 n1 p2, .slice s1 n2 s2, .slice w1 n3 w2, .slice t1 n4 t2, .bool bg, .bool bk] 33)).heap[w.heap.size]? = some (.cells #[.int .i64 b, .slice p1 n1 p2, .slice s1 n2 s2, .slice w1 n3 w2, .slice t1 n4 t2, .bool bg, .bool bk] 33)) := ⟨hr.nx (nx_alloc _ _), hn, heap_alloc_at _ _ rfl⟩
  clear hr hn
  go_enter Tryz.func43, Tryz.ntmps43
  go_wp2_with fail
  go_loopw [5] (fun i wr => ∃ k : Nat, k ≤ n3 ∧ i = .int .i64 k ∧ Hid (∀ y ∈ ws.take k, (isCliW c) y = false) ∧ Below (w.alloc (.cells #[.int .i64 b, .slice p1 n1 p2, .slice s1 n2 s2, .slice w1 n3 w2, .slice t1 n4 t2, .bool bg, .bool bk] 33)).heap.size (w.alloc (.cells #[.int .i64 b, .slice p1 n1 p2, .slice s1 n2 s2, .slice w1 n3 w2, .slice t1 n4 t2, .bool bg, .bool bk] 33)) wr) (fun i _ => n3 - (intOf i).toNat)
  case atStart => exact ⟨0, Nat.zero_le _, rfl, by intro y hy; simp at hy, Below.refl _ _⟩
  case round =>
    obtain ⟨k, hk, rfl, HT, hbel⟩ := hrel
    have hbx : wr.heap[w.heap.size]? = some (.cells #[.int .i64 b, .slice p1 n1 p2, .slice s1 n2 s2, .slice w1 n3 w2, .slice t1 n4 t2, .bool bg, .bool bk] 33) := (hbel.block _ (by simp)).trans HR.out.2.2
    have HB : Hid (Below w.heap.size w wr) := nx_trans (nx_alloc _ _) hbel
    have hcell : wr.cell? ⟨w.heap.size, 3, none⟩ = some (.slice w1 n3 w2) := by simp [World.cell?, hbx]
    by_cases hlt : k < n3
    · obtain ⟨⟨x0, x1⟩, hp⟩ : ∃ p, ws[k]? = some p := ⟨_, List.getElem?_eq_getElem (by rw [HR.out.2.1]; exact hlt)⟩
      obtain ⟨bl, off, hao, hbl, c0, c1⟩ := wt_at (HR.out.1.nx hbel) hp
      subst hao
      simp only at c0 c1
      have hlti : (k : Int) < (n3 : Int) := by omega
      cases hq : (x0 == c) with
      | true =>
        have HH : Hid (ws.findIdx? (isCliW c) = some k) := find_hit HT.out hp (by show (x0 == c) = true; exact hq)
        clear hp hbx
        go_wp2_with fail
        go_ret
        exact ⟨by rw [HH.out]; rfl, HB.out⟩
      | false =>
        have HN : Hid (∀ y ∈ ws.take (k + 1), (isCliW c) y = false) := take_next HT.out hp (by show (x0 == c) = false; exact hq)
        clear hp hbx
        go_wp2_with fail
        go_roundw
        case rel => exact ⟨k + 1, by omega, by go_num, HN.out, hbel⟩
        case measure => simp [intOf]; omega
    · have HM : Hid (ws.findIdx? (isCliW c) = none) := find_miss (fun y hy => HT.out y (by rw [List.take_of_length_le (by rw [HR.out.2.1]; omega)]; exact hy))
      clear hbx
      go_wp2_with fail
      go_ret
      exact ⟨by rw [HM.out]; rfl, HB.out⟩
set_option maxRecDepth 20000 in
set_option maxHeartbeats 1000000 in
theorem gAt (b : Int) (p1 : Option Addr) (n1 p2 : Nat) (name : ByteArray) (ps : List Pl) (w : World) (hr : RowAt w (.slice p1 n1 p2) n1 (flatP ps)) (hn : ps.length = n1) (hlen : n1 ≤ maxLen) :
    Calls Tryz.prog 41 #[.agg #[.int .i64 b, .slice p1 n1 p2], .string name] w fun e w' => e = .returned (.int .i64 (optI (ps.findIdx? (isNameP name)))) ∧ Below w.heap.size w w' := by
  unfold maxLen at hlen
  have HR : Hid (RowAt (w.alloc (bTab b (.slice p1 n1 p2))) (.slice p1 n1 p2) n1 (flatP ps) ∧ ps.length = n1 ∧ (w.alloc (bTab b (.slice p1 n1 p2))).heap[w.heap.size]? = some (bTab b (.slice p1 n1 p2))) := ⟨hr.nx (nx_alloc _ _), hn, heap_alloc_at _ _ rfl⟩
  clear hr hn
  go_enter Tryz.func41, Tryz.ntmps41
  go_wp2_with fail
  go_loopw [5] (fun i wr => ∃ k : Nat, k ≤ n1 ∧ i = .int .i64 k ∧ Hid (∀ y ∈ ps.take k, (isNameP name) y = false) ∧ Below (w.alloc (bTab b (.slice p1 n1 p2))).heap.size (w.alloc (bTab b (.slice p1 n1 p2))) wr) (fun i _ => n1 - (intOf i).toNat)
  case atStart => exact ⟨0, Nat.zero_le _, rfl, by intro y hy; simp at hy, Below.refl _ _⟩
  case round =>
    obtain ⟨k, hk, rfl, HT, hbel⟩ := hrel
    have hbx : wr.heap[w.heap.size]? = some (bTab b (.slice p1 n1 p2)) := (hbel.block _ (by simp)).trans HR.out.2.2
    have HB : Hid (Below w.heap.size w wr) := nx_trans (nx_alloc _ _) hbel
    have hcell : wr.cell? ⟨w.heap.size, 1, none⟩ = some (.slice p1 n1 p2) := by simp [World.cell?, hbx]
    by_cases hlt : k < n1
    · obtain ⟨⟨x0, x1, x2, x3⟩, hp⟩ : ∃ p, ps[k]? = some p := ⟨_, List.getElem?_eq_getElem (by rw [HR.out.2.1]; exact hlt)⟩
      obtain ⟨bl, off, hao, hbl, c0, c1, c2, c3⟩ := pool_at (HR.out.1.nx hbel) hp
      subst hao
      simp only at c0 c1 c2 c3
      have hlti : (k : Int) < (n1 : Int) := by omega
      cases hq : (x0.toList == name.toList) with
      | true =>
        have HH : Hid (ps.findIdx? (isNameP name) = some k) := find_hit HT.out hp (by show (x0.toList == name.toList) = true; exact hq)
        clear hp hbx
        go_wp2_with fail
        go_ret
        exact ⟨by rw [HH.out]; rfl, HB.out⟩
      | false =>
        have HN : Hid (∀ y ∈ ps.take (k + 1), (isNameP name) y = false) := take_next HT.out hp (by show (x0.toList == name.toList) = false; exact hq)
        clear hp hbx
        go_wp2_with fail
        go_roundw
        case rel => exact ⟨k + 1, by omega, by go_num, HN.out, hbel⟩
        case measure => simp [intOf]; omega
    · have HM : Hid (ps.findIdx? (isNameP name) = none) := find_miss (fun y hy => HT.out y (by rw [List.take_of_length_le (by rw [HR.out.2.1]; omega)]; exact hy))
      clear hbx
      go_wp2_with fail
      go_ret
      exact ⟨by rw [HM.out]; rfl, HB.out⟩
set_option maxRecDepth 20000 in
set_option maxHeartbeats 1000000 in
theorem gCount (b : Int) (p1 : Option Addr) (n1 p2 : Nat) (s1 : Option Addr) (n2 s2 : Nat) (w1 : Option Addr) (n3 w2 : Nat) (t1 : Option Addr) (n4 t2 : Nat) (bg bk : Bool) (pool : ByteArray) (ss : List Srv) (w : World) (hr : RowAt w (.slice s1 n2 s2) n2 (flatV ss)) (hn : ss.length = n2) (hlen : n2 ≤ maxLen) :
    Calls Tryz.prog 42 #[.agg #[.int .i64 b, .slice p1 n1 p2, .slice s1 n2 s2, .slice w1 n3 w2, .slice t1 n4 t2, .bool bg, .bool bk], .string pool] w fun e w' => e = .returned (.int .i64 (cntG (isPoolV pool) ss : Int)) ∧ Below w.heap.size w w' := by
  unfold maxLen at hlen
  have HR : Hid (RowAt (w.alloc (.cells #[.int .i64 b, .slice p1 n1 p2, .slice s1 n2 s2, .slice w1 n3 w2, .slice t1 n4 t2, .bool bg, .bool bk] 33)) (.slice s1 n2 s2) n2 (flatV ss) ∧ ss.length = n2 ∧ (w.alloc (.cells #[.int .i64 b, .slice p1 n1 p2, .slice s1 n2 s2, .slice w1 n3 w2, .slice t1 n4 t2, .bool bg, .bool bk] 33)).heap[w.heap.size]? = some (.cells #[.int .i64 b, .slice p1 n1 p2, .slice s1 n2 s2, .slice w1 n3 w2, .slice t1 n4 t2, .bool bg, .bool bk] 33)) := ⟨hr.nx (nx_alloc _ _), hn, heap_alloc_at _ _ rfl⟩
  clear hr hn
  go_enter Tryz.func42, Tryz.ntmps42
  go_wp2_with fail
  go_loopw [5, 6] (fun q i wr => ∃ k m : Nat, k ≤ n2 ∧ m ≤ k ∧ i = .int .i64 k ∧ q = .int .i64 m ∧ Hid (cntG (isPoolV pool) (ss.take k) = m) ∧ Below (w.alloc (.cells #[.int .i64 b, .slice p1 n1 p2, .slice s1 n2 s2, .slice w1 n3 w2, .slice t1 n4 t2, .bool bg, .bool bk] 33)).heap.size (w.alloc (.cells #[.int .i64 b, .slice p1 n1 p2, .slice s1 n2 s2, .slice w1 n3 w2, .slice t1 n4 t2, .bool bg, .bool bk] 33)) wr) (fun _ i _ => n2 - (intOf i).toNat)
  case atStart => exact ⟨0, 0, Nat.zero_le _, Nat.le_refl _, rfl, rfl, by show cntG _ _ = 0; simp [cntG], Below.refl _ _⟩
  case round =>
    obtain ⟨k, m, hk, hm, rfl, rfl, HT, hbel⟩ := hrel
    have hbx : wr.heap[w.heap.size]? = some (.cells #[.int .i64 b, .slice p1 n1 p2, .slice s1 n2 s2, .slice w1 n3 w2, .slice t1 n4 t2, .bool bg, .bool bk] 33) := (hbel.block _ (by simp)).trans HR.out.2.2
    have HB : Hid (Below w.heap.size w wr) := nx_trans (nx_alloc _ _) hbel
    have hcell : wr.cell? ⟨w.heap.size, 2, none⟩ = some (.slice s1 n2 s2) := by simp [World.cell?, hbx]
    by_cases hlt : k < n2
    · obtain ⟨⟨x0, x1, x2, x3⟩, hp⟩ : ∃ p, ss[k]? = some p := ⟨_, List.getElem?_eq_getElem (by rw [HR.out.2.1]; exact hlt)⟩
      obtain ⟨bl, off, hao, hbl, c0, c1, c2, c3⟩ := sv_at (HR.out.1.nx hbel) hp
      subst hao
      simp only at c0 c1 c2 c3
      have hlti : (k : Int) < (n2 : Int) := by omega
      have hnx := cntG_next (p := isPoolV pool) hp
      rw [HT.out] at hnx
      cases hq : (x1.toList == pool.toList) with
      | true =>
        have HN : Hid (cntG (isPoolV pool) (ss.take (k + 1)) = m + 1) := by
          have hq' : (isPoolV pool) ⟨x0, x1, x2, x3⟩ = true := hq
          show _ = _
          rw [hnx, if_pos hq']
        clear hp hbx hnx
        go_wp2_with fail
        go_roundw
        case rel => exact ⟨k + 1, m + 1, by omega, by omega, by go_num, by go_num, HN.out, hbel⟩
        case measure => simp [intOf]; omega
      | false =>
        have HN : Hid (cntG (isPoolV pool) (ss.take (k + 1)) = m) := by
          show _ = _
          rw [hnx, if_neg (fun h => by rw [show (isPoolV pool) _ = (x1.toList == pool.toList) from rfl, hq] at h; simp at h)]
          rfl
        clear hp hbx hnx
        go_wp2_with fail
        go_roundw
        case rel => exact ⟨k + 1, m, by omega, by omega, by go_num, rfl, HN.out, hbel⟩
        case measure => simp [intOf]; omega
    · have HM : Hid (cntG (isPoolV pool) ss = m) := by
        show _ = _
        rw [← HT.out, List.take_of_length_le (by rw [HR.out.2.1]; omega)]
      clear hbx
      go_wp2_with fail
      go_ret
      exact ⟨by rw [HM.out]; rfl, HB.out⟩
set_option maxRecDepth 20000 in
set_option maxHeartbeats 1000000 in
theorem gIdle (b : Int) (p1 : Option Addr) (n1 p2 : Nat) (s1 : Option Addr) (n2 s2 : Nat) (w1 : Option Addr) (n3 w2 : Nat) (t1 : Option Addr) (n4 t2 : Nat) (bg bk : Bool) (pool : ByteArray) (all : Bool) (ss : List Srv) (w : World) (hr : RowAt w (.slice s1 n2 s2) n2 (flatV ss)) (hn : ss.length = n2) (hlen : n2 ≤ maxLen) :
    Calls Tryz.prog 40 #[.agg #[.int .i64 b, .slice p1 n1 p2, .slice s1 n2 s2, .slice w1 n3 w2, .slice t1 n4 t2, .bool bg, .bool bk], .string pool, .bool all] w fun e w' => e = .returned (.bool (ss.any (isIdle pool all))) ∧ Below w.heap.size w w' := by
  unfold maxLen at hlen
  have HR : Hid (RowAt (w.alloc (.cells #[.int .i64 b, .slice p1 n1 p2, .slice s1 n2 s2, .slice w1 n3 w2, .slice t1 n4 t2, .bool bg, .bool bk] 33)) (.slice s1 n2 s2) n2 (flatV ss) ∧ ss.length = n2 ∧ (w.alloc (.cells #[.int .i64 b, .slice p1 n1 p2, .slice s1 n2 s2, .slice w1 n3 w2, .slice t1 n4 t2, .bool bg, .bool bk] 33)).heap[w.heap.size]? = some (.cells #[.int .i64 b, .slice p1 n1 p2, .slice s1 n2 s2, .slice w1 n3 w2, .slice t1 n4 t2, .bool bg, .bool bk] 33)) := ⟨hr.nx (nx_alloc _ _), hn, heap_alloc_at _ _ rfl⟩
  clear hr hn
  go_enter Tryz.func40, Tryz.ntmps40
  go_wp2_with fail
  go_loopw [7] (fun i wr => ∃ k : Nat, k ≤ n2 ∧ i = .int .i64 k ∧ Hid (∀ y ∈ ss.take k, (isIdle pool all) y = false) ∧ Below (w.alloc (.cells #[.int .i64 b, .slice p1 n1 p2, .slice s1 n2 s2, .slice w1 n3 w2, .slice t1 n4 t2, .bool bg, .bool bk] 33)).heap.size (w.alloc (.cells #[.int .i64 b, .slice p1 n1 p2, .slice s1 n2 s2, .slice w1 n3 w2, .slice t1 n4 t2, .bool bg, .bool bk] 33)) wr) (fun i _ => n2 - (intOf i).toNat)
  case atStart => exact ⟨0, Nat.zero_le _, rfl, by intro y hy; simp at hy, Below.refl _ _⟩
  case round =>
    obtain ⟨k, hk, rfl, HT, hbel⟩ := hrel
    have hbx : wr.heap[w.heap.size]? = some (.cells #[.int .i64 b, .slice p1 n1 p2, .slice s1 n2 s2, .slice w1 n3 w2, .slice t1 n4 t2, .bool bg, .bool bk] 33) := (hbel.block _ (by simp)).trans HR.out.2.2
    have HB : Hid (Below w.heap.size w wr) := nx_trans (nx_alloc _ _) hbel
    have hcell : wr.cell? ⟨w.heap.size, 2, none⟩ = some (.slice s1 n2 s2) := by simp [World.cell?, hbx]
    by_cases hlt : k < n2
    · obtain ⟨⟨x0, x1, x2, x3⟩, hp⟩ : ∃ p, ss[k]? = some p := ⟨_, List.getElem?_eq_getElem (by rw [HR.out.2.1]; exact hlt)⟩
      obtain ⟨bl, off, hao, hbl, c0, c1, c2, c3⟩ := sv_at (HR.out.1.nx hbel) hp
      subst hao
      simp only at c0 c1 c2 c3
      have hlti : (k : Int) < (n2 : Int) := by omega
      cases hq : isIdle pool all ⟨x0, x1, x2, x3⟩ with
      | true =>
        have HH : Hid (ss.any (isIdle pool all) = true) := List.any_eq_true.2 ⟨_, List.mem_of_getElem? hp, hq⟩
        simp only [isIdle, Bool.and_eq_true, Bool.or_eq_true] at hq
        obtain ⟨hq1, hq2⟩ := hq
        clear hp hbx
        cases all with
        | true =>
          go_wp2_with fail
          go_ret
          exact ⟨by rw [HH.out]; rfl, HB.out⟩
        | false =>
          have hq3 : (x1.toList == pool.toList) = true := by simpa using hq2
          go_wp2_with fail
          go_ret
          exact ⟨by rw [HH.out]; rfl, HB.out⟩
      | false =>
        have HN : Hid (∀ y ∈ ss.take (k + 1), (isIdle pool all) y = false) := take_next HT.out hp hq
        clear hp hbx
        cases h3 : (x3 == 0) with
        | false =>
          clear hq
          go_wp2_with fail
          go_roundw
          case rel => exact ⟨k + 1, by omega, by go_num, HN.out, hbel⟩
          case measure => simp [intOf]; omega
        | true =>
          have hall : all = false := by cases all <;> simp [isIdle, h3] at hq ⊢
          have hq3 : (x1.toList == pool.toList) = false := by simpa [isIdle, h3, hall] using hq
          subst hall
          clear hq
          go_wp2_with fail
          go_roundw
          case rel => exact ⟨k + 1, by omega, by go_num, HN.out, hbel⟩
          case measure => simp [intOf]; omega
    · have HM : Hid (ss.any (isIdle pool all) = false) := List.any_eq_false.2 (fun y hy => by rw [HT.out y (by rw [List.take_of_length_le (by rw [HR.out.2.1]; omega)]; exact hy)]; simp)
      clear hbx
      go_wp2_with fail
      go_ret
      exact ⟨by rw [HM.out]; rfl, HB.out⟩
end Lw
end Go.Proofs.YtohbonfngeblkaaGreat
