import Derived.Test.YtohbonfngeblkaaGreatMnH
import Derived.Test.YtohbonfngeblkaaGreatMnK
import Derived.BigQuiet
import Derived.Deep.DeepCutAuto
namespace Go.Proofs.YtohbonfngeblkaaGreat
open Go.RowKit
namespace Lw
open Co
def holdL (c : Int) (ss : List Srv) : Int := match ss.find? (isCliV c) with | some s => s.id | none => 0
theorem holdP_eq (T : Sta) (c : Int) : holdP T c = holdL c T.srv := rfl
theorem findx_hit {α : Type} {p : α → Bool} {l : List α} {k : Nat} {x : α} (hn : ∀ y ∈ l.take k, p y = false) (hx : l[k]? = some x) (hp : p x = true) : l.find? p = some x := by
  obtain ⟨y, h1, h2⟩ := (find_idx p l).1 k (find_hit hn hx hp)
  rw [hx] at h1
  rw [h2, ← Option.some.inj h1]
theorem findx_miss {α : Type} {p : α → Bool} {l : List α} (hn : ∀ y ∈ l, p y = false) : l.find? p = none := List.find?_eq_none.2 (fun x hx => by rw [hn x hx]; simp)
set_option maxRecDepth 20000 in
set_option maxHeartbeats 1000000 in
theorem gHolds (b : Int) (p1 : Option Addr) (n1 p2 : Nat) (s1 : Option Addr) (n2 s2 : Nat) (w1 : Option Addr) (n3 w2 : Nat) (t1 : Option Addr) (n4 t2 : Nat) (bg bk : Bool) (c : Int) (ss : List Srv) (w : World) (hr : RowAt w (.slice s1 n2 s2) n2 (flatV ss)) (hn : ss.length = n2) (hlen : n2 ≤ maxLen) :
    Calls Tryz.prog 39 #[.agg #[.int .i64 b, .slice p1 n1 p2, .slice s1 n2 s2, .slice w1 n3 w2, .slice t1 n4 t2, .bool bg, .bool bk], .int .i64 c] w fun e w' => e = .returned (.int .i64 (holdL c ss)) ∧ Below w.heap.size w w' := by
  unfold maxLen at hlen
  have HR : Hid (RowAt (w.alloc (.cells #[.int .i64 b, .slice p1 n1 p2, .slice s1 n2 s2, .slice w1 n3 w2, .slice t1 n4 t2, .bool bg, .bool bk] 33)) (.slice s1 n2 s2) n2 (flatV ss) ∧ ss.length = n2 ∧ (w.alloc (.cells #[.int .i64 b, .slice p1 n1 p2, .slice s1 n2 s2, .slice w1 n3 w2, .slice t1 n4 t2, .bool bg, .bool bk] 33)).heap[w.heap.size]? = some (.cells #[.int .i64 b, .slice p1 n1 p2, .slice s1 n2 s2, .slice w1 n3 w2, .slice t1 n4 t2, .bool bg, .bool bk] 33)) := ⟨hr.nx (nx_alloc _ _), hn, heap_alloc_at _ _ rfl⟩
  clear hr hn
  go_enter Tryz.func39, Tryz.ntmps39
  go_wp2_with fail
  go_loopw [5] (fun i wr => ∃ k : Nat, k ≤ n2 ∧ i = .int .i64 k ∧ Hid (∀ y ∈ ss.take k, (isCliV c) y = false) ∧ Below (w.alloc (.cells #[.int .i64 b, .slice p1 n1 p2, .slice s1 n2 s2, .slice w1 n3 w2, .slice t1 n4 t2, .bool bg, .bool bk] 33)).heap.size (w.alloc (.cells #[.int .i64 b, .slice p1 n1 p2, .slice s1 n2 s2, .slice w1 n3 w2, .slice t1 n4 t2, .bool bg, .bool bk] 33)) wr) (fun i _ => n2 - (intOf i).toNat)
  case atStart => exact ⟨0, Nat.zero_le _, rfl, by intro y hy; simp at hy, Below.refl _ _⟩
  case round =>
    obtain ⟨k, hk, rfl, HT, hbel⟩ := hrel
    have hbx : wr.heap[w.heap.size]? = some (.cells #[.int .i64 b, .slice p1 n1 p2, .slice s1 n2 s2, .slice w1 n3 w2, .slice t1 n4 t2, .bool bg, .bool bk] 33) := (hbel.block _ (by simp)).trans HR.out.2.2
    have HB : Hid (Below w.heap.size w wr) := nx_trans (nx_alloc _ _) hbel
    have hcell : wr.cell? ⟨w.heap.size, 2, none⟩ = some (.slice s1 n2 s2) := by simp [World.cell?, hbx]
    by_cases hlt : k < n2
    · obtain ⟨⟨x0, x1, x2, x3⟩, hp⟩ : ∃ p, ss[k]? = some p := ⟨_, List.getElem?_eq_getElem (by rw [HR.out.2.1]; exact hlt)⟩
      obtain ⟨bl, off, hao, hbl, c0, c1, c2, c3⟩ := sv_at (HR.out.1.nx hbel) hp
      subst hao
      simp only at c0 c1 c2 c3
      have hlti : (k : Int) < (n2 : Int) := by omega
      cases hq : (x3 == c) with
      | true =>
        have HH : Hid (ss.find? (isCliV c) = some ⟨x0, x1, x2, x3⟩) := findx_hit HT.out hp (by show (x3 == c) = true; exact hq)
        clear hp hbx
        go_wp2_with fail
        go_ret
        exact ⟨by unfold holdL; rw [HH.out]; rfl, HB.out⟩
      | false =>
        have HN : Hid (∀ y ∈ ss.take (k + 1), (isCliV c) y = false) := take_next HT.out hp (by show (x3 == c) = false; exact hq)
        clear hp hbx
        go_wp2_with fail
        go_roundw
        case rel => exact ⟨k + 1, by omega, by go_num, HN.out, hbel⟩
        case measure => simp [intOf]; omega
    · have HM : Hid (ss.find? (isCliV c) = none) := findx_miss (fun y hy => HT.out y (by rw [List.take_of_length_le (by rw [HR.out.2.1]; omega)]; exact hy))
      clear hbx
      go_wp2_with fail
      go_ret
      exact ⟨by unfold holdL; rw [HM.out]; rfl, HB.out⟩
set_option maxRecDepth 20000 in
set_option maxHeartbeats 1000000 in
theorem gWaits (b : Int) (p1 : Option Addr) (n1 p2 : Nat) (s1 : Option Addr) (n2 s2 : Nat) (w1 : Option Addr) (n3 w2 : Nat) (t1 : Option Addr) (n4 t2 : Nat) (bg bk : Bool) (c : Int) (ws : List Wtr) (w : World) (hr : RowAt w (.slice w1 n3 w2) n3 (flatW ws)) (hn : ws.length = n3) (hlen : n3 ≤ maxLen) :
    Calls Tryz.prog 43 #[.agg #[.int .i64 b, .slice p1 n1 p2, .slice s1 n2 s2, .slice w1 n3 w2, .slice t1 n4 t2, .bool bg, .bool bk], .int .i64 c] w fun e w' => e = .returned (.int .i64 (optI (ws.findIdx? (isCliW c)))) ∧ Below w.heap.size w w' := by
  unfold maxLen at hlen
  have HR : Hid (RowAt (w.alloc (.cells #[.int .i64 b, .slice p1 n1 p2, .slice s1 n2 s2, .slice w1 n3 w2, .slice t1 n4 t2, .bool bg, .bool bk] 33)) (.slice w1 n3 w2) n3 (flatW ws) ∧ ws.length = n3 ∧ (w.alloc (.cells #[.int .i64 b, .slice p1 n1 p2, .slice s1 n2 s2, .slice w1 n3 w2, .slice t1 n4 t2, .bool bg, .bool bk] 33)).heap[w.heap.size]? = some (.cells #[.int .i64 b, .slice p1 n1 p2, .slice s1 n2 s2, .slice w1 n3 w2, .slice t1 n4 t2, .bool bg, .bool bk] 33)) := ⟨hr.nx (nx_alloc _ _), hn, heap_alloc_at _ _ rfl⟩
  clear hr hn
  go_enter Tryz.func43, Tryz.ntmps43
  go_wp2_with fail
  go_loopw [5] (fun i wr => ∃ k : Nat, k ≤ n3 ∧ i = .int .i64 k ∧ Hid (∀ y ∈ ws.take k, (isCliW c) y = false) ∧ Below (w.alloc (.cells #[.int .i64 b, .slice p1 n1 p2, .slice s1 n2 s2, .slice w1 n3 w2, .slice t1 n4 t2, .bool bg, .bool bk] 33)).heap.size (w.alloc (.cells #[.int .i64 b, .slice p1 n1 p2, .slice s1 n2 s2, .slice w1 n3 w2, .slice t1 n4 t2, .bool bg, .bool bk] 33)) wr) (fun i _ => n3 - (intOf i).toNat)
  case atStart => exact ⟨0, Nat.zero_le _, rfl, by intro y hy; simp at hy, Below.refl _ _⟩
  case round =>
    obtain ⟨k, hk, rfl, HT, hbel⟩ := hrel
    have hbx : wr.heap[w.heap.size]? = some (.cells #[.int .i64 b, .slice p1 n1 p2, .slice s1 n2 s2, .slice w1 n3 w2, .slice t1 n4 t2, .bool bg, .bool bk] 33) := (hbel.block _ (by simp)).trans HR.out.2.2
    have HB : Hid (Below w.heap.size w wr) := nx_trans (nx_alloc _ _) hbel
    have hcell : wr.cell? ⟨w.heap.size, 3, none⟩ = some (.slice w1 n3 w2) := by simp [World.cell?, hbx]
    by_cases hlt : k < n3
    · obtain ⟨⟨x0, x1⟩, hp⟩ : ∃ p, ws[k]? = some p := ⟨_, List.getElem?_eq_getElem (by rw [HR.out.2.1]; exact hlt)⟩
      obtain ⟨bl, off, hao, hbl, c0, c1⟩ := wt_at (HR.out.1.nx hbel) hp
      subst hao
      simp only at c0 c1
      have hlti : (k : Int) < (n3 : Int) := by omega
      cases hq : (x0 == c) with
      | true =>
        have HH : Hid (ws.findIdx? (isCliW c) = some k) := find_hit HT.out hp (by show (x0 == c) = true; exact hq)
        clear hp hbx
        go_wp2_with fail
        go_ret
        exact ⟨by rw [HH.out]; rfl, HB.out⟩
      | false =>
        have HN : Hid (∀ y ∈ ws.take (k + 1), (isCliW c) y = false) := take_next HT.out hp (by show (x0 == c) = false; exact hq)
        clear hp hbx
        go_wp2_with fail
        go_roundw
        case rel => exact ⟨k + 1, by omega, by go_num, HN.out, hbel⟩
        case measure => simp [intOf]; omega
    · have HM : Hid (ws.findIdx? (isCliW c) = none) := find_miss (fun y hy => HT.out y (by rw [List.take_of_length_le (by rw [HR.out.2.1]; omega)]; exact hy))
      clear hbx
      go_wp2_with fail
      go_ret
      exact ⟨by rw [HM.out]; rfl, HB.out⟩
set_option maxRecDepth 20000 in
set_option maxHeartbeats 1000000 in
theorem gAt (b : Int) (p1 : Option Addr) (n1 p2 : Nat) (name : ByteArray) (ps : List Pl) (w : World) (hr : RowAt w (.slice p1 n1 p2) n1 (flatP ps)) (hn : ps.length = n1) (hlen : n1 ≤ maxLen) :
    Calls Tryz.prog 41 #[.agg #[.int .i64 b, .slice p1 n1 p2], .string name] w fun e w' => e = .returned (.int .i64 (optI (ps.findIdx? (isNameP name)))) ∧ Below w.heap.size w w' := by
  unfold maxLen at hlen
  have HR : Hid (RowAt (w.alloc (bTab b (.slice p1 n1 p2))) (.slice p1 n1 p2) n1 (flatP ps) ∧ ps.length = n1 ∧ (w.alloc (bTab b (.slice p1 n1 p2))).heap[w.heap.size]? = some (bTab b (.slice p1 n1 p2))) := ⟨hr.nx (nx_alloc _ _), hn, heap_alloc_at _ _ rfl⟩
  clear hr hn
  go_enter Tryz.func41, Tryz.ntmps41
  go_wp2_with fail
  go_loopw [5] (fun i wr => ∃ k : Nat, k ≤ n1 ∧ i = .int .i64 k ∧ Hid (∀ y ∈ ps.take k, (isNameP name) y = false) ∧ Below (w.alloc (bTab b (.slice p1 n1 p2))).heap.size (w.alloc (bTab b (.slice p1 n1 p2))) wr) (fun i _ => n1 - (intOf i).toNat)
  case atStart => exact ⟨0, Nat.zero_le _, rfl, by intro y hy; simp at hy, Below.refl _ _⟩
  case round =>
    obtain ⟨k, hk, rfl, HT, hbel⟩ := hrel
    have hbx : wr.heap[w.heap.size]? = some (bTab b (.slice p1 n1 p2)) := (hbel.block _ (by simp)).trans HR.out.2.2
    have HB : Hid (Below w.heap.size w wr) := nx_trans (nx_alloc _ _) hbel
    have hcell : wr.cell? ⟨w.heap.size, 1, none⟩ = some (.slice p1 n1 p2) := by simp [World.cell?, hbx]
    by_cases hlt : k < n1
    · obtain ⟨⟨x0, x1, x2, x3⟩, hp⟩ : ∃ p, ps[k]? = some p := ⟨_, List.getElem?_eq_getElem (by rw [HR.out.2.1]; exact hlt)⟩
      obtain ⟨bl, off, hao, hbl, c0, c1, c2, c3⟩ := pool_at (HR.out.1.nx hbel) hp
      subst hao
      simp only at c0 c1 c2 c3
      have hlti : (k : Int) < (n1 : Int) := by omega
      cases hq : (x0.toList == name.toList) with
      | true =>
        have HH : Hid (ps.findIdx? (isNameP name) = some k) := find_hit HT.out hp (by show (x0.toList == name.toList) = true; exact hq)
        clear hp hbx
        go_wp2_with fail
        go_ret
        exact ⟨by rw [HH.out]; rfl, HB.out⟩
      | false =>
        have HN : Hid (∀ y ∈ ps.take (k + 1), (isNameP name) y = false) := take_next HT.out hp (by show (x0.toList == name.toList) = false; exact hq)
        clear hp hbx
        go_wp2_with fail
        go_roundw
        case rel => exact ⟨k + 1, by omega, by go_num, HN.out, hbel⟩
        case measure => simp [intOf]; omega
    · have HM : Hid (ps.findIdx? (isNameP name) = none) := find_miss (fun y hy => HT.out y (by rw [List.take_of_length_le (by rw [HR.out.2.1]; omega)]; exact hy))
      clear hbx
      go_wp2_with fail
      go_ret
      exact ⟨by rw [HM.out]; rfl, HB.out⟩
set_option maxRecDepth 20000 in
set_option maxHeartbeats 1000000 in
theorem gCount (b : Int) (p1 : Option Addr) (n1 p2 : Nat) (s1 : Option Addr) (n2 s2 : Nat) (w1 : Option Addr) (n3 w2 : Nat) (t1 : Option Addr) (n4 t2 : Nat) (bg bk : Bool) (pool : ByteArray) (ss : List Srv) (w : World) (hr : RowAt w (.slice s1 n2 s2) n2 (flatV ss)) (hn : ss.length = n2) (hlen : n2 ≤ maxLen) :
    Calls Tryz.prog 42 #[.agg #[.int .i64 b, .slice p1 n1 p2, .slice s1 n2 s2, .slice w1 n3 w2, .slice t1 n4 t2, .bool bg, .bool bk], .string pool] w fun e w' => e = .returned (.int .i64 (cntG (isPoolV pool) ss : Int)) ∧ Below w.heap.size w w' := by
  unfold maxLen at hlen
  have HR : Hid (RowAt (w.alloc (.cells #[.int .i64 b, .slice p1 n1 p2, .slice s1 n2 s2, .slice w1 n3 w2, .slice t1 n4 t2, .bool bg, .bool bk] 33)) (.slice s1 n2 s2) n2 (flatV ss) ∧ ss.length = n2 ∧ (w.alloc (.cells #[.int .i64 b, .slice p1 n1 p2, .slice s1 n2 s2, .slice w1 n3 w2, .slice t1 n4 t2, .bool bg, .bool bk] 33)).heap[w.heap.size]? = some (.cells #[.int .i64 b, .slice p1 n1 p2, .slice s1 n2 s2, .slice w1 n3 w2, .slice t1 n4 t2, .bool bg, .bool bk] 33)) := ⟨hr.nx (nx_alloc _ _), hn, heap_alloc_at _ _ rfl⟩
  clear hr hn
  go_enter Tryz.func42, Tryz.ntmps42
  go_wp2_with fail
  go_loopw [5, 6] (fun q i wr => ∃ k m : Nat, k ≤ n2 ∧ m ≤ k ∧ i = .int .i64 k ∧ q = .int .i64 m ∧ Hid (cntG (isPoolV pool) (ss.take k) = m) ∧ Below (w.alloc (.cells #[.int .i64 b, .slice p1 n1 p2, .slice s1 n2 s2, .slice w1 n3 w2, .slice t1 n4 t2, .bool bg, .bool bk] 33)).heap.size (w.alloc (.cells #[.int .i64 b, .slice p1 n1 p2, .slice s1 n2 s2, .slice w1 n3 w2, .slice t1 n4 t2, .bool bg, .bool bk] 33)) wr) (fun _ i _ => n2 - (intOf i).toNat)
  case atStart => exact ⟨0, 0, Nat.zero_le _, Nat.le_refl _, rfl, rfl, by show cntG _ _ = 0; simp [cntG], Below.refl _ _⟩
  case round =>
    obtain ⟨k, m, hk, hm, rfl, rfl, HT, hbel⟩ := hrel
    have hbx : wr.heap[w.heap.size]? = some (.cells #[.int .i64 b, .slice p1 n1 p2, .slice s1 n2 s2, .slice w1 n3 w2, .slice t1 n4 t2, .bool bg, .bool bk] 33) := (hbel.block _ (by simp)).trans HR.out.2.2
    have HB : Hid (Below w.heap.size w wr) := nx_trans (nx_alloc _ _) hbel
    have hcell : wr.cell? ⟨w.heap.size, 2, none⟩ = some (.slice s1 n2 s2) := by simp [World.cell?, hbx]
    by_cases hlt : k < n2
    · obtain ⟨⟨x0, x1, x2, x3⟩, hp⟩ : ∃ p, ss[k]? = some p := ⟨_, List.getElem?_eq_getElem (by rw [HR.out.2.1]; exact hlt)⟩
      obtain ⟨bl, off, hao, hbl, c0, c1, c2, c3⟩ := sv_at (HR.out.1.nx hbel) hp
      subst hao
      simp only at c0 c1 c2 c3
      have hlti : (k : Int) < (n2 : Int) := by omega
      have hnx := cntG_next (p := isPoolV pool) hp
      rw [HT.out] at hnx
      cases hq : (x1.toList == pool.toList) with
      | true =>
        have HN : Hid (cntG (isPoolV pool) (ss.take (k + 1)) = m + 1) := by
          have hq' : (isPoolV pool) ⟨x0, x1, x2, x3⟩ = true := hq
          show _ = _
          rw [hnx, if_pos hq']
        clear hp hbx hnx
        go_wp2_with fail
        go_roundw
        case rel => exact ⟨k + 1, m + 1, by omega, by omega, by go_num, by go_num, HN.out, hbel⟩
        case measure => simp [intOf]; omega
      | false =>
        have HN : Hid (cntG (isPoolV pool) (ss.take (k + 1)) = m) := by
          show _ = _
          rw [hnx, if_neg (fun h => by rw [show (isPoolV pool) _ = (x1.toList == pool.toList) from rfl, hq] at h; simp at h)]
          rfl
        clear hp hbx hnx
        go_wp2_with fail
        go_roundw
        case rel => exact ⟨k + 1, m, by omega, by omega, by go_num, rfl, HN.out, hbel⟩
        case measure => simp [intOf]; omega
    · have HM : Hid (cntG (isPoolV pool) ss = m) := by
        show _ = _
        rw [← HT.out, List.take_of_length_le (by rw [HR.out.2.1]; omega)]
      clear hbx
      go_wp2_with fail
      go_ret
      exact ⟨by rw [HM.out]; rfl, HB.out⟩
set_option maxRecDepth 20000 in
set_option maxHeartbeats 1000000 in
theorem gIdle (b : Int) (p1 : Option Addr) (n1 p2 : Nat) (s1 : Option Addr) (n2 s2 : Nat) (w1 : Option Addr) (n3 w2 : Nat) (t1 : Option Addr) (n4 t2 : Nat) (bg bk : Bool) (pool : ByteArray) (all : Bool) (ss : List Srv) (w : World) (hr : RowAt w (.slice s1 n2 s2) n2 (flatV ss)) (hn : ss.length = n2) (hlen : n2 ≤ maxLen) :
    Calls Tryz.prog 40 #[.agg #[.int .i64 b, .slice p1 n1 p2, .slice s1 n2 s2, .slice w1 n3 w2, .slice t1 n4 t2, .bool bg, .bool bk], .string pool, .bool all] w fun e w' => e = .returned (.bool (ss.any (isIdle pool all))) ∧ Below w.heap.size w w' := by
  unfold maxLen at hlen
  have HR : Hid (RowAt (w.alloc (.cells #[.int .i64 b, .slice p1 n1 p2, .slice s1 n2 s2, .slice w1 n3 w2, .slice t1 n4 t2, .bool bg, .bool bk] 33)) (.slice s1 n2 s2) n2 (flatV ss) ∧ ss.length = n2 ∧ (w.alloc (.cells #[.int .i64 b, .slice p1 n1 p2, .slice s1 n2 s2, .slice w1 n3 w2, .slice t1 n4 t2, .bool bg, .bool bk] 33)).heap[w.heap.size]? = some (.cells #[.int .i64 b, .slice p1 n1 p2, .slice s1 n2 s2, .slice w1 n3 w2, .slice t1 n4 t2, .bool bg, .bool bk] 33)) := ⟨hr.nx (nx_alloc _ _), hn, heap_alloc_at _ _ rfl⟩
  clear hr hn
  go_enter Tryz.func40, Tryz.ntmps40
  go_wp2_with fail
  go_loopw [7] (fun i wr => ∃ k : Nat, k ≤ n2 ∧ i = .int .i64 k ∧ Hid (∀ y ∈ ss.take k, (isIdle pool all) y = false) ∧ Below (w.alloc (.cells #[.int .i64 b, .slice p1 n1 p2, .slice s1 n2 s2, .slice w1 n3 w2, .slice t1 n4 t2, .bool bg, .bool bk] 33)).heap.size (w.alloc (.cells #[.int .i64 b, .slice p1 n1 p2, .slice s1 n2 s2, .slice w1 n3 w2, .slice t1 n4 t2, .bool bg, .bool bk] 33)) wr) (fun i _ => n2 - (intOf i).toNat)
  case atStart => exact ⟨0, Nat.zero_le _, rfl, by intro y hy; simp at hy, Below.refl _ _⟩
  case round =>
    obtain ⟨k, hk, rfl, HT, hbel⟩ := hrel
    have hbx : wr.heap[w.heap.size]? = some (.cells #[.int .i64 b, .slice p1 n1 p2, .slice s1 n2 s2, .slice w1 n3 w2, .slice t1 n4 t2, .bool bg, .bool bk] 33) := (hbel.block _ (by simp)).trans HR.out.2.2
    have HB : Hid (Below w.heap.size w wr) := nx_trans (nx_alloc _ _) hbel
    have hcell : wr.cell? ⟨w.heap.size, 2, none⟩ = some (.slice s1 n2 s2) := by simp [World.cell?, hbx]
    by_cases hlt : k < n2
    · obtain ⟨⟨x0, x1, x2, x3⟩, hp⟩ : ∃ p, ss[k]? = some p := ⟨_, List.getElem?_eq_getElem (by rw [HR.out.2.1]; exact hlt)⟩
      obtain ⟨bl, off, hao, hbl, c0, c1, c2, c3⟩ := sv_at (HR.out.1.nx hbel) hp
      subst hao
      simp only at c0 c1 c2 c3
      have hlti : (k : Int) < (n2 : Int) := by omega
      cases hq : isIdle pool all ⟨x0, x1, x2, x3⟩ with
      | true =>
        have HH : Hid (ss.any (isIdle pool all) = true) := List.any_eq_true.2 ⟨_, List.mem_of_getElem? hp, hq⟩
        simp only [isIdle, Bool.and_eq_true, Bool.or_eq_true] at hq
        obtain ⟨hq1, hq2⟩ := hq
        clear hp hbx
        cases all with
        | true =>
          go_wp2_with fail
          go_ret
          exact ⟨by rw [HH.out]; rfl, HB.out⟩
        | false =>
          have hq3 : (x1.toList == pool.toList) = true := by simpa using hq2
          go_wp2_with fail
          go_ret
          exact ⟨by rw [HH.out]; rfl, HB.out⟩
      | false =>
        have HN : Hid (∀ y ∈ ss.take (k + 1), (isIdle pool all) y = false) := take_next HT.out hp hq
        clear hp hbx
        cases h3 : (x3 == 0) with
        | false =>
          clear hq
          go_wp2_with fail
          go_roundw
          case rel => exact ⟨k + 1, by omega, by go_num, HN.out, hbel⟩
          case measure => simp [intOf]; omega
        | true =>
          have hall : all = false := by cases all <;> simp [isIdle, h3] at hq ⊢
          have hq3 : (x1.toList == pool.toList) = false := by simpa [isIdle, h3, hall] using hq
          subst hall
          clear hq
          go_wp2_with fail
          go_roundw
          case rel => exact ⟨k + 1, by omega, by go_num, HN.out, hbel⟩
          case measure => simp [intOf]; omega
    · have HM : Hid (ss.any (isIdle pool all) = false) := List.any_eq_false.2 (fun y hy => by rw [HT.out y (by rw [List.take_of_length_le (by rw [HR.out.2.1]; omega)]; exact hy)]; simp)
      clear hbx
      go_wp2_with fail
      go_ret
      exact ⟨by rw [HM.out]; rfl, HB.out⟩
end Lw
end Go.Proofs.YtohbonfngeblkaaGreat
namespace Go.Proofs.YtohbonfngeblkaaGreat
open Go.RowKit
namespace Lw
open Co
theorem gblk {u v : World} {g : Nat} {o : Obj} (h : u.heap[g]? = some o) (hb : Below u.heap.size u v) : v.heap[g]? = some o := (hb.block g (Array.getElem?_eq_some_iff.1 h).1).trans h
theorem gblk4 {w : World} {g : Nat} {c0 c1 c2 c3 : Value} {t : TypeId} (h : w.heap[g]? = some (.cells #[c0, c1, c2, c3] t (0, 0))) : w.cell? ⟨g, 0, none⟩ = some c0 ∧ w.cell? ⟨g, 1, none⟩ = some c1 ∧ w.cell? ⟨g, 2, none⟩ = some c2 ∧ w.cell? ⟨g, 3, none⟩ = some c3 := by
  refine ⟨?_, ?_, ?_, ?_⟩ <;> simp [World.cell?, h]
theorem gblk3 {w : World} {g : Nat} {c0 c1 c2 : Value} {t : TypeId} (h : w.heap[g]? = some (.cells #[c0, c1, c2] t (0, 0))) : w.cell? ⟨g, 0, none⟩ = some c0 ∧ w.cell? ⟨g, 1, none⟩ = some c1 ∧ w.cell? ⟨g, 2, none⟩ = some c2 := by
  refine ⟨?_, ?_, ?_⟩ <;> simp [World.cell?, h]
theorem gblk2 {w : World} {g : Nat} {c0 c1 : Value} {t : TypeId} (h : w.heap[g]? = some (.cells #[c0, c1] t (0, 0))) : w.cell? ⟨g, 0, none⟩ = some c0 ∧ w.cell? ⟨g, 1, none⟩ = some c1 := by
  refine ⟨?_, ?_⟩ <;> simp [World.cell?, h]
theorem gblk7 {w : World} {g : Nat} {c0 c1 c2 c3 c4 c5 c6 : Value} {t : TypeId} (h : w.heap[g]? = some (.cells #[c0, c1, c2, c3, c4, c5, c6] t (0, 0))) : w.cell? ⟨g, 0, none⟩ = some c0 ∧ w.cell? ⟨g, 1, none⟩ = some c1 ∧ w.cell? ⟨g, 2, none⟩ = some c2 ∧ w.cell? ⟨g, 3, none⟩ = some c3 ∧ w.cell? ⟨g, 4, none⟩ = some c4 ∧ w.cell? ⟨g, 5, none⟩ = some c5 ∧ w.cell? ⟨g, 6, none⟩ = some c6 := by
  refine ⟨?_, ?_, ?_, ?_, ?_, ?_, ?_⟩ <;> simp [World.cell?, h]
theorem gfidx_at {α : Type} {p : α → Bool} {l : List α} {k : Nat} (h : l.findIdx? p = some k) : ∃ x, l[k]? = some x ∧ l.find? p = some x := (find_idx p l).1 k h
theorem gfidx_no {α : Type} {p : α → Bool} {l : List α} (h : l.findIdx? p = none) : l.find? p = none := (find_idx p l).2 h
def surG (bud : Int) (ps : List Pl) (ss : List Srv) (s : Srv) : Bool := match ps.find? (isNameP s.pool) with
  | none => true
  | some x => (s.far != x.fr) || decide (x.sz < (cntG (isPoolV s.pool) ss : Int)) || decide (bud < (ss.length : Int))
theorem surG_eq (S : Sta) (s : Srv) : surG S.bud S.pools S.srv s = isSur S s := by
  unfold surG isSur
  cases S.pools.find? (isNameP s.pool) with
  | none => rfl
  | some x =>
    simp only
    have : (s.far != x.fr) = !decide (s.far = x.fr) := rfl
    rw [this]
set_option maxRecDepth 20000 in
set_option maxHeartbeats 8000000 in
theorem gSurplus (b : Int) (po : Option Addr) (n1 pc : Nat) (so : Option Addr) (n2 sc : Nat) (wo : Option Addr) (n3 wc : Nat) (qo : Option Addr) (n4 tc : Nat) (bg bk : Bool) (ps : List Pl) (ss : List Srv) (w : World) (i : Nat) (x0 : Int) (x1 : ByteArray) (x2 x3 : Int) (hr1 : RowAt w (.slice po n1 pc) n1 (flatP ps)) (hn1 : ps.length = n1) (hq1 : n1 ≤ 1099511627776) (hr2 : RowAt w (.slice so n2 sc) n2 (flatV ss)) (hn2 : ss.length = n2) (hq2 : n2 ≤ 1099511627776) (hsi : ss[i]? = some ⟨x0, x1, x2, x3⟩) :
    Calls Tryz.prog 19 #[.agg #[.int .i64 b, .slice po n1 pc, .slice so n2 sc, .slice wo n3 wc, .slice qo n4 tc, .bool bg, .bool bk], .int .i64 i] w fun e w' => e = .returned (.bool (surG b ps ss ⟨x0, x1, x2, x3⟩)) ∧ Below w.heap.size w w' := by
  obtain ⟨bl, off, hao, hbl, d0, d1, d2, d3⟩ := sv_at hr2 hsi
  have hin : (i : Int) < (n2 : Int) := by
    have := (List.getElem?_eq_some_iff.1 hsi).1
    rw [hn2] at this
    omega
  have h0i : (0 : Int) ≤ (i : Int) := by omega
  subst hao
  simp only at d0 d1 d2 d3
  obtain ⟨W, hW⟩ : ∃ W, W = (w.alloc (.cells #[.int .i64 b, .slice po n1 pc, .slice (some ⟨bl, off, none⟩) n2 sc, .slice wo n3 wc, .slice qo n4 tc, .bool bg, .bool bk] 33)).alloc (.cells #[.int .i64 x0, .string x1, .int .i64 x2, .int .i64 x3] 55) := ⟨_, rfl⟩
  have hbW : Below w.heap.size w W := by rw [hW]; exact nx_trans (nx_alloc _ _) (nx_alloc _ _)
  have HW : Hid (W = (w.alloc (.cells #[.int .i64 b, .slice po n1 pc, .slice (some ⟨bl, off, none⟩) n2 sc, .slice wo n3 wc, .slice qo n4 tc, .bool bg, .bool bk] 33)).alloc (.cells #[.int .i64 x0, .string x1, .int .i64 x2, .int .i64 x3] 55) ∧ W.heap[w.heap.size]? = some (.cells #[.int .i64 b, .slice po n1 pc, .slice (some ⟨bl, off, none⟩) n2 sc, .slice wo n3 wc, .slice qo n4 tc, .bool bg, .bool bk] 33) ∧ W.heap[w.heap.size + 1]? = some (.cells #[.int .i64 x0, .string x1, .int .i64 x2, .int .i64 x3] 55) ∧ Below w.heap.size w W) := by
    refine ⟨hW, ?_, ?_, hbW⟩
    · rw [hW]; exact (heap_alloc_lt _ _ (by simp)).trans (heap_alloc_at _ _ rfl)
    · rw [hW]; exact heap_alloc_at _ _ (by simp)
  have HAL := hideIt (gAt b po n1 pc x1 ps W (hr1.nx hbW) hn1 (by unfold maxLen; omega))
  have HCT := hideIt (fun u (hb' : Below W.heap.size W u) => gCount b po n1 pc (some ⟨bl, off, none⟩) n2 sc wo n3 wc qo n4 tc bg bk x1 ss u ((hr2.nx hbW).nx hb') hn2 (by unfold maxLen; omega))
  have HPL : Hid (∀ (u : World) (q : Nat) (x : Pl), Below W.heap.size W u → ps[q]? = some x → ∃ b1 f1, po = some ⟨b1, f1, none⟩ ∧ u.cell? ⟨b1, f1 + q * 4, none⟩ = some (.string x.nm) ∧ u.cell? ⟨b1, f1 + q * 4 + 1, none⟩ = some (.int .i64 x.sz) ∧ u.cell? ⟨b1, f1 + q * 4 + 2, none⟩ = some (.int .i64 x.wt) ∧ u.cell? ⟨b1, f1 + q * 4 + 3, none⟩ = some (.int .i64 x.fr)) := by
    intro u q x hu hq
    obtain ⟨b1, f1, e, _, g0, g1, g2, g3⟩ := pool_at ((hr1.nx hbW).nx hu) hq
    exact ⟨b1, f1, e, g0, g1, g2, g3⟩
  have HLN : Hid (ps.length = n1 ∧ ss.length = n2) := ⟨hn1, hn2⟩
  have e0 : ∀ o, (w.alloc o).cell? ⟨bl, off + i * 4, none⟩ = some (.int .i64 x0) := fun o => ((nx_alloc w o).cell (p := ⟨bl, off + i * 4, none⟩) hbl).trans d0
  have e1 : ∀ o, (w.alloc o).cell? ⟨bl, off + i * 4 + 1, none⟩ = some (.string x1) := fun o => ((nx_alloc w o).cell (p := ⟨bl, off + i * 4 + 1, none⟩) hbl).trans d1
  have e2 : ∀ o, (w.alloc o).cell? ⟨bl, off + i * 4 + 2, none⟩ = some (.int .i64 x2) := fun o => ((nx_alloc w o).cell (p := ⟨bl, off + i * 4 + 2, none⟩) hbl).trans d2
  have e3 : ∀ o, (w.alloc o).cell? ⟨bl, off + i * 4 + 3, none⟩ = some (.int .i64 x3) := fun o => ((nx_alloc w o).cell (p := ⟨bl, off + i * 4 + 3, none⟩) hbl).trans d3
  clear hr1 hn1 hr2 hn2 hsi hW hbW d0 d1 d2 d3
  go_enter Tryz.func19, Tryz.ntmps19
  go_upto_region 2 with fail
  rw [← HW.out.1]
  clear e0 e1 e2 e3
  obtain ⟨a0, a1, a2, a3, a4, a5, a6⟩ := gblk7 HW.out.2.1
  obtain ⟨s0, s1, s2, s3⟩ := gblk4 HW.out.2.2.1
  go_wp2_with fail
  refine HAL.out.mono ?_
  rintro e w1 ⟨rfl, hb1⟩
  have HB1 := hideIt hb1
  clear hb1 a0 a1 a2 a3 a4 a5 a6 s0 s1 s2 s3
  obtain ⟨a0, a1, a2, a3, a4, a5, a6⟩ := gblk7 (gblk HW.out.2.1 HB1.out)
  obtain ⟨s0, s1, s2, s3⟩ := gblk4 (gblk HW.out.2.2.1 HB1.out)
  cases hp : ps.findIdx? (isNameP x1) with
  | none =>
    have HL : Hid (surG b ps ss ⟨x0, x1, x2, x3⟩ = true) := by show _ = _; simp only [surG, gfidx_no hp]
    clear hp
    unfold optI
    go_wp2_with fail
    go_ret
    exact ⟨ret_bool HL.out.symm, nx_trans HW.out.2.2.2 HB1.out⟩
  | some p =>
    obtain ⟨⟨y0, y1, y2, y3⟩, hy, hfy⟩ := gfidx_at hp
    have hpn : (p : Int) < (n1 : Int) := by
      have := (List.getElem?_eq_some_iff.1 hy).1
      rw [HLN.out.1] at this
      omega
    have h0p : (0 : Int) ≤ (p : Int) := by omega
    have hnp : ¬ (p : Int) < 0 := by omega
    have HL : Hid (surG b ps ss ⟨x0, x1, x2, x3⟩ = ((x2 != y3) || decide (y1 < (cntG (isPoolV x1) ss : Int)) || decide (b < (n2 : Int)))) := by show _ = _; simp only [surG, hfy, HLN.out.2]
    have HY := hideIt hy
    clear hp hy hfy
    unfold optI
    go_wp2_with fail
    refine (HCT.out w1 HB1.out).mono ?_
    rintro e w2 ⟨rfl, hb2⟩
    have HB2 := hideIt (nx_trans HB1.out hb2)
    clear hb2 a0 a1 a2 a3 a4 a5 a6 s0 s1 s2 s3
    obtain ⟨ct, hct⟩ : ∃ ct : Nat, cntG (isPoolV x1) ss = ct := ⟨_, rfl⟩
    rw [hct] at HL ⊢
    clear hct
    obtain ⟨a0, a1, a2, a3, a4, a5, a6⟩ := gblk7 (gblk HW.out.2.1 HB2.out)
    obtain ⟨s0, s1, s2, s3⟩ := gblk4 (gblk HW.out.2.2.1 HB2.out)
    obtain ⟨pb, pf, hpo, g0, g1, g2, g3⟩ := HPL.out w2 p _ HB2.out HY.out
    subst hpo
    simp only at g0 g1 g2 g3
    cases hq1' : (x2 != y3) with
    | true =>
      rw [hq1'] at HL
      go_upto_region 6 with fail
      go_quiet (fail)
      go_wp2_with fail
      go_ret
      exact ⟨ret_bool (by rw [HL.out]; rfl), below_drewN (nx_trans HW.out.2.2.2 HB2.out) _⟩
    | false =>
      rw [hq1'] at HL
      cases h2 : decide (y1 < (ct : Int)) with
      | true =>
        rw [h2] at HL
        go_upto_region 6 with fail
        go_quiet (fail)
        go_wp2_with fail
        go_ret
        exact ⟨ret_bool (by rw [HL.out]; rfl), below_drewN (nx_trans HW.out.2.2.2 HB2.out) _⟩
      | false =>
        rw [h2] at HL
        go_upto_region 6 with fail
        go_quiet (fail)
        go_wp2_with fail
        go_ret
        exact ⟨ret_bool (by rw [HL.out]; simp), below_drewN (nx_trans HW.out.2.2.2 HB2.out) _⟩
end Lw
end Go.Proofs.YtohbonfngeblkaaGreat
