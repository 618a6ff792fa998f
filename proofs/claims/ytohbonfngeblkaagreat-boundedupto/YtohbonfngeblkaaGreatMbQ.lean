import Derived.Test.YtohbonfngeblkaaGreatMbJ
import Derived.Test.YtohbonfngeblkaaGreatMbI
import Derived.Maps.AppendAt
namespace Go.Proofs.YtohbonfngeblkaaGreat
open Go.RowKit
namespace Lw
open Co
theorem find_at {α : Type} {p : α → Bool} {l : List α} {k : Nat} {x : α} (hn : ∀ y ∈ l.take k, p y = false) (hx : l[k]? = some x) (hp : p x = true) : l.find? p = some x := by
  obtain ⟨x', h1, h2⟩ := (find_idx p l).1 k (find_hit hn hx hp)
  rw [hx] at h1
  rw [h2, Option.some.inj h1]
theorem find_no {α : Type} {p : α → Bool} {l : List α} (hn : ∀ y ∈ l, p y = false) : l.find? p = none := (find_idx p l).2 (find_miss hn)
abbrev svA (x : Srv) : Value := .agg #[.int .i64 x.id, .string x.pool, .int .i64 x.far, .int .i64 x.client]
abbrev zSrv : Srv := ⟨0, ⟨#[]⟩, 0, 0⟩
def orS (o : Option Srv) : Srv := match o with | some s => s | none => zSrv
def isId (id : Int) (x : Srv) : Bool := x.id == id
set_option maxRecDepth 20000 in
set_option maxHeartbeats 1000000 in
theorem cWaits (ao : Option Addr) (n ac : Nat) (c : Int) (ws : List Wtr) (w : World) (hr : RowAt w (.slice ao n ac) n (flatW ws)) (hn : ws.length = n) (hlen : n ≤ maxLen) :
    Calls Tryz.prog 85 #[.slice ao n ac, .int .i64 c] w fun e w' => e = .returned (.bool (ws.find? (isCliW c)).isSome) ∧ w' = w := by
  unfold maxLen at hlen
  have HR : Hid (RowAt w (.slice ao n ac) n (flatW ws) ∧ ws.length = n) := ⟨hr, hn⟩
  clear hr hn
  go_enter Tryz.func85, Tryz.ntmps85
  go_wp2_with fail
  go_loop [5] (fun i => ∃ k : Nat, k ≤ n ∧ i = .int .i64 k ∧ Hid (∀ y ∈ ws.take k, (isCliW c) y = false)) (fun i => n - (intOf i).toNat)
  case atStart => exact ⟨0, Nat.zero_le _, rfl, by intro y hy; simp at hy⟩
  case round =>
    obtain ⟨k, hk, rfl, HT⟩ := hrel
    by_cases hlt : k < n
    · have HRW := HR.out.1
      obtain ⟨⟨x0, x1⟩, hp⟩ : ∃ p, ws[k]? = some p := ⟨_, List.getElem?_eq_getElem (by rw [HR.out.2]; exact hlt)⟩
      obtain ⟨bl, off, hao, hbl, c0, c1⟩ := wt_at HRW hp
      subst hao
      simp only at c0 c1
      have hlti : (k : Int) < (n : Int) := by omega
      clear HRW
      cases hq : (x0 == c) with
      | true =>
        have HH : Hid ((ws.find? (isCliW c)).isSome = true) := List.find?_isSome.2 ⟨_, List.mem_of_getElem? hp, hq⟩
        clear hp
        go_wp2_with fail
        go_ret
        exact ⟨by rw [HH.out]; rfl, rfl⟩
      | false =>
        have HN : Hid (∀ y ∈ ws.take (k + 1), (isCliW c) y = false) := take_next HT.out hp (by show (x0 == c) = false; exact hq)
        clear hp
        go_wp2_with fail
        go_round
        case rel => exact ⟨k + 1, by omega, by go_num, HN.out⟩
        case measure => simp [intOf]; omega
    · have HM : Hid ((ws.find? (isCliW c)).isSome = false) := by
        show _ = _
        rw [List.find?_eq_none.2 (fun y hy => by rw [HT.out y (by rw [List.take_of_length_le (by rw [HR.out.2]; omega)]; exact hy)]; simp)]
        rfl
      go_wp2_with fail
      go_ret
      exact ⟨by rw [HM.out]; rfl, rfl⟩
set_option maxRecDepth 20000 in
set_option maxHeartbeats 1000000 in
theorem cIsServer (ao : Option Addr) (n ac : Nat) (c : Int) (ss : List Srv) (w : World) (hr : RowAt w (.slice ao n ac) n (flatV ss)) (hn : ss.length = n) (hlen : n ≤ maxLen) :
    Calls Tryz.prog 68 #[.slice ao n ac, .int .i64 c] w fun e w' => e = .returned (.bool (ss.find? (isId c)).isSome) ∧ w' = w := by
  unfold maxLen at hlen
  have HR : Hid (RowAt w (.slice ao n ac) n (flatV ss) ∧ ss.length = n) := ⟨hr, hn⟩
  clear hr hn
  go_enter Tryz.func68, Tryz.ntmps68
  go_wp2_with fail
  go_loop [5] (fun i => ∃ k : Nat, k ≤ n ∧ i = .int .i64 k ∧ Hid (∀ y ∈ ss.take k, (isId c) y = false)) (fun i => n - (intOf i).toNat)
  case atStart => exact ⟨0, Nat.zero_le _, rfl, by intro y hy; simp at hy⟩
  case round =>
    obtain ⟨k, hk, rfl, HT⟩ := hrel
    by_cases hlt : k < n
    · have HRW := HR.out.1
      obtain ⟨⟨x0, x1, x2, x3⟩, hp⟩ : ∃ p, ss[k]? = some p := ⟨_, List.getElem?_eq_getElem (by rw [HR.out.2]; exact hlt)⟩
      obtain ⟨bl, off, hao, hbl, c0, c1, c2, c3⟩ := sv_at HRW hp
      subst hao
      simp only at c0 c1 c2 c3
      have hlti : (k : Int) < (n : Int) := by omega
      clear HRW
      cases hq : (x0 == c) with
      | true =>
        have HH : Hid ((ss.find? (isId c)).isSome = true) := List.find?_isSome.2 ⟨_, List.mem_of_getElem? hp, hq⟩
        clear hp
        go_wp2_with fail
        go_ret
        exact ⟨by rw [HH.out]; rfl, rfl⟩
      | false =>
        have HN : Hid (∀ y ∈ ss.take (k + 1), (isId c) y = false) := take_next HT.out hp (by show (x0 == c) = false; exact hq)
        clear hp
        go_wp2_with fail
        go_round
        case rel => exact ⟨k + 1, by omega, by go_num, HN.out⟩
        case measure => simp [intOf]; omega
    · have HM : Hid ((ss.find? (isId c)).isSome = false) := by
        show _ = _
        rw [List.find?_eq_none.2 (fun y hy => by rw [HT.out y (by rw [List.take_of_length_le (by rw [HR.out.2]; omega)]; exact hy)]; simp)]
        rfl
      go_wp2_with fail
      go_ret
      exact ⟨by rw [HM.out]; rfl, rfl⟩
set_option maxRecDepth 20000 in
set_option maxHeartbeats 1000000 in
theorem cWaitersFor (ao : Option Addr) (n ac : Nat) (pool : ByteArray) (ws : List Wtr) (w : World) (hr : RowAt w (.slice ao n ac) n (flatW ws)) (hn : ws.length = n) (hlen : n ≤ maxLen) :
    Calls Tryz.prog 81 #[.slice ao n ac, .string pool] w fun e w' => e = .returned (.int .i64 (cntG (isPoolW pool) ws : Int)) ∧ w' = w := by
  unfold maxLen at hlen
  have HR : Hid (RowAt w (.slice ao n ac) n (flatW ws) ∧ ws.length = n) := ⟨hr, hn⟩
  clear hr hn
  go_enter Tryz.func81, Tryz.ntmps81
  go_wp2_with fail
  go_loop [5, 6] (fun q i => ∃ k m : Nat, k ≤ n ∧ m ≤ k ∧ i = .int .i64 k ∧ q = .int .i64 m ∧ Hid (cntG (isPoolW pool) (ws.take k) = m)) (fun _ i => n - (intOf i).toNat)
  case atStart => exact ⟨0, 0, Nat.zero_le _, Nat.le_refl _, rfl, rfl, by show cntG _ _ = 0; simp [cntG]⟩
  case round =>
    obtain ⟨k, m, hk, hm, rfl, rfl, HT⟩ := hrel
    by_cases hlt : k < n
    · have HRW := HR.out.1
      obtain ⟨⟨x0, x1⟩, hp⟩ : ∃ p, ws[k]? = some p := ⟨_, List.getElem?_eq_getElem (by rw [HR.out.2]; exact hlt)⟩
      obtain ⟨bl, off, hao, hbl, c0, c1⟩ := wt_at HRW hp
      subst hao
      simp only at c0 c1
      have hlti : (k : Int) < (n : Int) := by omega
      clear HRW
      have hnx := cntG_next (p := isPoolW pool) hp
      rw [HT.out] at hnx
      cases hq : (x1.toList == pool.toList) with
      | true =>
        have HN : Hid (cntG (isPoolW pool) (ws.take (k + 1)) = m + 1) := by
          have hq' : (isPoolW pool) ⟨x0, x1⟩ = true := hq
          show _ = _
          rw [hnx, if_pos hq']
        clear hp hnx
        go_wp2_with fail
        go_round
        case rel => exact ⟨k + 1, m + 1, by omega, by omega, by go_num, by go_num, HN.out⟩
        case measure => simp [intOf]; omega
      | false =>
        have HN : Hid (cntG (isPoolW pool) (ws.take (k + 1)) = m) := by
          have hq' : ¬ (isPoolW pool) ⟨x0, x1⟩ = true := fun h => by rw [show (isPoolW pool) ⟨x0, x1⟩ = (x1.toList == pool.toList) from rfl, hq] at h; simp at h
          show _ = _
          rw [hnx, if_neg hq']
          rfl
        clear hp hnx
        go_wp2_with fail
        go_round
        case rel => exact ⟨k + 1, m, by omega, by omega, by go_num, rfl, HN.out⟩
        case measure => simp [intOf]; omega
    · have HM : Hid (cntG (isPoolW pool) ws = m) := by
        show _ = _
        rw [← HT.out, List.take_of_length_le (by rw [HR.out.2]; omega)]
      go_wp2_with fail
      go_ret
      exact ⟨by rw [HM.out]; rfl, rfl⟩
set_option maxRecDepth 20000 in
set_option maxHeartbeats 1000000 in
theorem cHeldBy (ao : Option Addr) (n ac : Nat) (c : Int) (ss : List Srv) (w : World) (hr : RowAt w (.slice ao n ac) n (flatV ss)) (hn : ss.length = n) (hlen : n ≤ maxLen) :
    Calls Tryz.prog 80 #[.slice ao n ac, .int .i64 c] w fun e w' => e = .returned (svA (orS (ss.find? (isCliV c)))) ∧ Below w.heap.size w w' := by
  unfold maxLen at hlen
  have HR : Hid (RowAt (w.alloc (.cells #[.int .i64 0, .string ⟨#[]⟩, .int .i64 0, .int .i64 0] 55)) (.slice ao n ac) n (flatV ss) ∧ ss.length = n) := ⟨hr.nx (nx_alloc _ _), hn⟩
  clear hr hn
  go_enter Tryz.func80, Tryz.ntmps80
  go_wp2_with fail
  go_loop [5] (fun i => ∃ k : Nat, k ≤ n ∧ i = .int .i64 k ∧ Hid (∀ y ∈ ss.take k, (isCliV c) y = false)) (fun i => n - (intOf i).toNat)
  case atStart => exact ⟨0, Nat.zero_le _, rfl, by intro y hy; simp at hy⟩
  case round =>
    obtain ⟨k, hk, rfl, HT⟩ := hrel
    by_cases hlt : k < n
    · have HRW := HR.out.1
      obtain ⟨⟨x0, x1, x2, x3⟩, hp⟩ : ∃ p, ss[k]? = some p := ⟨_, List.getElem?_eq_getElem (by rw [HR.out.2]; exact hlt)⟩
      obtain ⟨bl, off, hao, hbl, c0, c1, c2, c3⟩ := sv_at HRW hp
      subst hao
      simp only at c0 c1 c2 c3
      have hlti : (k : Int) < (n : Int) := by omega
      clear HRW
      cases hq : (x3 == c) with
      | true =>
        have HH : Hid (ss.find? (isCliV c) = some ⟨x0, x1, x2, x3⟩) := find_at HT.out hp hq
        clear hp
        go_wp2_with fail
        refine bodyPost_ret (v := svA ⟨x0, x1, x2, x3⟩) (by simp [results, Tryz.results80, go_sem]) rfl ⟨by rw [HH.out]; rfl, ?_⟩
        exact nx_alloc _ _
      | false =>
        have HN : Hid (∀ y ∈ ss.take (k + 1), (isCliV c) y = false) := take_next HT.out hp (by show (x3 == c) = false; exact hq)
        clear hp
        go_wp2_with fail
        go_round
        case rel => exact ⟨k + 1, by omega, by go_num, HN.out⟩
        case measure => simp [intOf]; omega
    · have HM : Hid (ss.find? (isCliV c) = none) := find_no (fun y hy => HT.out y (by rw [List.take_of_length_le (by rw [HR.out.2]; omega)]; exact hy))
      go_wp2_with fail
      refine bodyPost_ret (v := svA zSrv) (by simp [results, Tryz.results80, go_sem]) rfl ⟨by rw [HM.out]; rfl, ?_⟩
      exact nx_alloc _ _
theorem cFirstIdle (ao : Option Addr) (n ac : Nat) (ss : List Srv) (w : World) (hr : RowAt w (.slice ao n ac) n (flatV ss)) (hn : ss.length = n) (hlen : n ≤ maxLen) :
    Calls Tryz.prog 137 #[.slice ao n ac] w fun e w' => e = .returned (svA (orS (ss.find? (isCliV 0)))) ∧ Below w.heap.size w w' := by
  have HH := hideIt (cHeldBy ao n ac 0 ss (w.alloc (.cells #[.int .i64 0, .string ⟨#[]⟩, .int .i64 0, .int .i64 0] 55)) (hr.nx (nx_alloc _ _)) hn hlen)
  clear hr hn
  go_enter Tryz.func137, Tryz.ntmps137
  go_wp2_with fail
  refine HH.out.mono ?_
  rintro e w1 ⟨rfl, hb⟩
  obtain ⟨⟨x0, x1, x2, x3⟩, hx⟩ : ∃ x, orS (ss.find? (isCliV 0)) = x := ⟨_, rfl⟩
  rw [hx]
  have HX := hideIt hx
  obtain ⟨y0, y1, y2, y3, yz⟩ := blk4 hb (g := w.heap.size) (by simp) (heap_alloc_at _ _ rfl)
  have KB : Hid (Below w.heap.size w w1) := nx_trans (nx_alloc _ _) hb
  clear hb hx HH
  go_wp2_with fail
  refine bodyPost_ret (v := svA ⟨x0, x1, x2, x3⟩) (by simp [results, Tryz.results137, go_sem, y0, y1, y2, y3]) rfl ⟨by rw [HX.out], ?_⟩
  have hg : w.heap.size ≤ w.heap.size := Nat.le_refl _
  exact (((KB.out.setCell hg _).setCell hg _).setCell hg _).setCell hg _
abbrev zPl : Pl := ⟨⟨#[]⟩, 0, 0, 0⟩
def findV (o : Option Pl) : Value := match o with | some p => .tuple #[plA p, .bool true] | none => .tuple #[plA zPl, .bool false]
set_option maxRecDepth 20000 in
set_option maxHeartbeats 1000000 in
theorem cFind (ao : Option Addr) (n ac : Nat) (name : ByteArray) (ps : List Pl) (w : World) (hr : RowAt w (.slice ao n ac) n (flatP ps)) (hn : ps.length = n) (hlen : n ≤ maxLen) :
    Calls Tryz.prog 78 #[.slice ao n ac, .string name] w fun e w' => e = .returned (findV (ps.find? (isNameP name))) ∧ Below w.heap.size w w' := by
  unfold maxLen at hlen
  have HR : Hid (RowAt (w.alloc (bPl zPl)) (.slice ao n ac) n (flatP ps) ∧ ps.length = n) := ⟨hr.nx (nx_alloc _ _), hn⟩
  clear hr hn
  go_enter Tryz.func78, Tryz.ntmps78
  go_wp2_with fail
  go_loop [6] (fun i => ∃ k : Nat, k ≤ n ∧ i = .int .i64 k ∧ Hid (∀ y ∈ ps.take k, (isNameP name) y = false)) (fun i => n - (intOf i).toNat)
  case atStart => exact ⟨0, Nat.zero_le _, rfl, by intro y hy; simp at hy⟩
  case round =>
    obtain ⟨k, hk, rfl, HT⟩ := hrel
    by_cases hlt : k < n
    · have HRW := HR.out.1
      obtain ⟨⟨x0, x1, x2, x3⟩, hp⟩ : ∃ p, ps[k]? = some p := ⟨_, List.getElem?_eq_getElem (by rw [HR.out.2]; exact hlt)⟩
      obtain ⟨bl, off, hao, hbl, c0, c1, c2, c3⟩ := pool_at HRW hp
      subst hao
      simp only at c0 c1 c2 c3
      have hlti : (k : Int) < (n : Int) := by omega
      clear HRW
      cases hq : (x0.toList == name.toList) with
      | true =>
        have HH : Hid (ps.find? (isNameP name) = some ⟨x0, x1, x2, x3⟩) := find_at HT.out hp hq
        clear hp
        go_wp2_with fail
        refine bodyPost_ret (v := .tuple #[plA ⟨x0, x1, x2, x3⟩, .bool true]) (by simp [results, Tryz.results78, go_sem]) rfl ⟨by rw [HH.out]; rfl, ?_⟩
        exact nx_alloc _ _
      | false =>
        have HN : Hid (∀ y ∈ ps.take (k + 1), (isNameP name) y = false) := take_next HT.out hp (by show (x0.toList == name.toList) = false; exact hq)
        clear hp
        go_wp2_with fail
        go_round
        case rel => exact ⟨k + 1, by omega, by go_num, HN.out⟩
        case measure => simp [intOf]; omega
    · have HM : Hid (ps.find? (isNameP name) = none) := find_no (fun y hy => HT.out y (by rw [List.take_of_length_le (by rw [HR.out.2]; omega)]; exact hy))
      go_wp2_with fail
      refine bodyPost_ret (v := .tuple #[plA zPl, .bool false]) (by simp [results, Tryz.results78, go_sem]) rfl ⟨by rw [HM.out]; rfl, ?_⟩
      exact nx_alloc _ _
theorem cIsClient (c : Int) (w : World) : Calls Tryz.prog 76 #[.int .i64 c] w fun e w' => e = .returned (.bool (decide (1 ≤ c) && decide (c ≤ 99))) ∧ w' = w := by
  by_cases h1 : 1 ≤ c
  · by_cases h2 : c ≤ 99
    · go_enter Tryz.func76, Tryz.ntmps76
      go_wp2_with fail
      go_ret
      exact ⟨by simp [h1, h2], rfl⟩
    · go_enter Tryz.func76, Tryz.ntmps76
      go_wp2_with fail
      go_ret
      exact ⟨by simp [h2], rfl⟩
  · go_enter Tryz.func76, Tryz.ntmps76
    go_wp2_with fail
    go_ret
    exact ⟨by simp; omega, rfl⟩
end Lw
end Go.Proofs.YtohbonfngeblkaaGreat
namespace Go.Proofs.YtohbonfngeblkaaGreat
open Go.RowKit
namespace Lw
open Co
def mP (q : Int) : List Value := [.string ⟨#[]⟩, .int .i64 0, .int .i64 0, .int .i64 q]
def mV (q : Int) : List Value := [.int .i64 0, .string ⟨#[]⟩, .int .i64 q, .int .i64 0]
def mW (q : Int) : List Value := [.int .i64 q, .string ⟨#[]⟩]
def mT (q : Int) : List Value := [.int .i64 0, .string ⟨#[]⟩, .int .i64 q]
def MarkG (sz : Nat) (m : List Value) (cur : Array Value) (k : Nat) : Prop := ∀ j, j < k → ∀ (i : Nat) (x : Value), m[i]? = some x → cur[j * sz + i]? = some x
def FullG (ty : TypeId) (sz : Nat) (m : List Value) (w : World) (v : Value) : Prop :=
  v = .slice none 0 0 ∨ ∃ g cap cur, v = .slice (some ⟨g, 0, none⟩) cap cap ∧ cap ≤ maxLen ∧ w.heap[g]? = some (.cells cur ty (0, 0)) ∧ MarkG sz m cur cap
theorem FullG.keep {ty : TypeId} {sz : Nat} {m : List Value} {w w' : World} {v : Value} (h : FullG ty sz m w v) (hh : ∀ g, v.ownBlock = some g → w'.heap[g]? = w.heap[g]?) : FullG ty sz m w' v := by
  rcases h with h | ⟨g, cap, cur, h1, h2, h3, h4⟩
  · exact .inl h
  · exact .inr ⟨g, cap, cur, h1, h2, (hh g (by rw [h1]; rfl)).trans h3, h4⟩
theorem mark_zero (sz : Nat) (m : List Value) (cur : Array Value) : MarkG sz m cur 0 := fun j hj => by omega
theorem mark_4 {cur : Array Value} {k cap : Nat} {m0 m1 m2 m3 : Value} (h : MarkG 4 [m0, m1, m2, m3] cur k) (hc : cur.size = cap * 4) (hk : k < cap) :
    MarkG 4 [m0, m1, m2, m3] ((((cur.setIfInBounds (k * 4) m0).setIfInBounds (k * 4 + 1) m1).setIfInBounds (k * 4 + 2) m2).setIfInBounds (k * 4 + 3) m3) (k + 1) := by
  intro j hj i x hx
  have hi : i < 4 := (List.getElem?_eq_some_iff.1 hx).1
  have hsz : k * 4 + 3 < cur.size := by omega
  by_cases hjk : j < k
  · rw [Array.getElem?_setIfInBounds_ne (by omega), Array.getElem?_setIfInBounds_ne (by omega), Array.getElem?_setIfInBounds_ne (by omega), Array.getElem?_setIfInBounds_ne (by omega)]
    exact h j hjk i x hx
  · obtain rfl : j = k := by omega
    match i, hi, hx with
    | 0, _, hx => simp at hx; subst hx; simp only [Nat.add_zero]; rw [Array.getElem?_setIfInBounds_ne (by omega), Array.getElem?_setIfInBounds_ne (by omega), Array.getElem?_setIfInBounds_ne (by omega), Array.getElem?_setIfInBounds_self_of_lt (by omega)]
    | 1, _, hx => simp at hx; subst hx; rw [Array.getElem?_setIfInBounds_ne (by omega), Array.getElem?_setIfInBounds_ne (by omega), Array.getElem?_setIfInBounds_self_of_lt (by simp; omega)]
    | 2, _, hx => simp at hx; subst hx; rw [Array.getElem?_setIfInBounds_ne (by omega), Array.getElem?_setIfInBounds_self_of_lt (by simp; omega)]
    | 3, _, hx => simp at hx; subst hx; rw [Array.getElem?_setIfInBounds_self_of_lt (by simp; omega)]
theorem mark_3 {cur : Array Value} {k cap : Nat} {m0 m1 m2 : Value} (h : MarkG 3 [m0, m1, m2] cur k) (hc : cur.size = cap * 3) (hk : k < cap) :
    MarkG 3 [m0, m1, m2] (((cur.setIfInBounds (k * 3) m0).setIfInBounds (k * 3 + 1) m1).setIfInBounds (k * 3 + 2) m2) (k + 1) := by
  intro j hj i x hx
  have hi : i < 3 := (List.getElem?_eq_some_iff.1 hx).1
  have hsz : k * 3 + 2 < cur.size := by omega
  by_cases hjk : j < k
  · rw [Array.getElem?_setIfInBounds_ne (by omega), Array.getElem?_setIfInBounds_ne (by omega), Array.getElem?_setIfInBounds_ne (by omega)]
    exact h j hjk i x hx
  · obtain rfl : j = k := by omega
    match i, hi, hx with
    | 0, _, hx => simp at hx; subst hx; simp only [Nat.add_zero]; rw [Array.getElem?_setIfInBounds_ne (by omega), Array.getElem?_setIfInBounds_ne (by omega), Array.getElem?_setIfInBounds_self_of_lt (by omega)]
    | 1, _, hx => simp at hx; subst hx; rw [Array.getElem?_setIfInBounds_ne (by omega), Array.getElem?_setIfInBounds_self_of_lt (by simp; omega)]
    | 2, _, hx => simp at hx; subst hx; rw [Array.getElem?_setIfInBounds_self_of_lt (by simp; omega)]
theorem mark_2 {cur : Array Value} {k cap : Nat} {m0 m1 : Value} (h : MarkG 2 [m0, m1] cur k) (hc : cur.size = cap * 2) (hk : k < cap) :
    MarkG 2 [m0, m1] ((cur.setIfInBounds (k * 2) m0).setIfInBounds (k * 2 + 1) m1) (k + 1) := by
  intro j hj i x hx
  have hi : i < 2 := (List.getElem?_eq_some_iff.1 hx).1
  have hsz : k * 2 + 1 < cur.size := by omega
  by_cases hjk : j < k
  · rw [Array.getElem?_setIfInBounds_ne (by omega), Array.getElem?_setIfInBounds_ne (by omega)]
    exact h j hjk i x hx
  · obtain rfl : j = k := by omega
    match i, hi, hx with
    | 0, _, hx => simp at hx; subst hx; simp only [Nat.add_zero]; rw [Array.getElem?_setIfInBounds_ne (by omega), Array.getElem?_setIfInBounds_self_of_lt (by omega)]
    | 1, _, hx => simp at hx; subst hx; rw [Array.getElem?_setIfInBounds_self_of_lt (by simp; omega)]
theorem blkC {w : World} {g : Nat} {cur : Array Value} {t : TypeId} (h : w.heap[g]? = some (.cells cur t (0, 0))) (a : Nat) (ha : a < cur.size) : (∃ v, w.cell? ⟨g, a, none⟩ = some v) ∧ w.frozen? ⟨g, a, none⟩ = false := by
  refine ⟨⟨cur[a], ?_⟩, ?_⟩
  · simp [World.cell?, h, ha]
  · simp [World.frozen?, h]
theorem ownG_heap {w w' : World} {B : Nat} {e : TypeId} {size : Nat} {v : Value} {n : Nat} {xs : List Value} (h : w.ownsRow B e size v n xs) (hh : ∀ j, v.ownBlock = some j → w'.heap[j]? = w.heap[j]?) : w'.ownsRow B e size v n xs := by
  obtain ⟨hl, h⟩ := h
  refine ⟨hl, ?_⟩
  rcases h with h | ⟨g, cap, cur, h1, h2, hg, h4⟩
  · exact .inl h
  · exact .inr ⟨g, cap, cur, h1, h2, (hh g (by rw [h1]; rfl)).trans hg, h4⟩
def SameW (w w' : World) : Prop := w'.os = w.os ∧ w'.tape = w.tape ∧ w'.output = w.output
theorem SameW.trans {a b c : World} (h : SameW a b) (k : SameW b c) : SameW a c := ⟨k.1.trans h.1, k.2.1.trans h.2.1, k.2.2.trans h.2.2⟩
theorem sameW_set (w : World) (a : Addr) (v : Value) : SameW w (w.setCell a v) := by
  have h := (Below.refl 0 w).setCell (Nat.zero_le a.block) v
  exact ⟨h.os, h.tape, h.output⟩
theorem info_ps : (Tryz.prog.info? 22).map (fun i => (i.zero, i.size, i.bytes)) = some (some (.slice none 0 0), 1, 24) := by kernel_rfl
theorem info_vs : (Tryz.prog.info? 29).map (fun i => (i.zero, i.size, i.bytes)) = some (some (.slice none 0 0), 1, 24) := by kernel_rfl
theorem info_ws : (Tryz.prog.info? 30).map (fun i => (i.zero, i.size, i.bytes)) = some (some (.slice none 0 0), 1, 24) := by kernel_rfl
theorem info_ts : (Tryz.prog.info? 31).map (fun i => (i.zero, i.size, i.bytes)) = some (some (.slice none 0 0), 1, 24) := by kernel_rfl
end Lw
end Go.Proofs.YtohbonfngeblkaaGreat
namespace Go.Proofs.YtohbonfngeblkaaGreat
open Go.RowKit
namespace Lw
open Co
end Lw
end Go.Proofs.YtohbonfngeblkaaGreat
namespace Go.Proofs.YtohbonfngeblkaaGreat
open Go.RowKit
namespace Lw
open Co
end Lw
end Go.Proofs.YtohbonfngeblkaaGreat
namespace Go.Proofs.YtohbonfngeblkaaGreat
open Go.RowKit
namespace Lw
open Co
def RowsG (ty tyl : TypeId) (sz : Nat) (mk : Int → List Value) (w : World) (F : Nat → Prop) (v : Value) (q : Nat) : Prop :=
  ∃ vs, w.ownsRow 0 tyl 1 v q vs ∧ (∀ g, v.ownBlock = some g → F g) ∧ ∀ (i : Nat) (x : Value), vs[i]? = some x → FullG ty sz (mk ((i + 1 : Nat) : Int)) w x ∧ ∀ g, x.ownBlock = some g → F g
theorem RowsG.keep {ty tyl : TypeId} {sz : Nat} {mk : Int → List Value} {w w' : World} {F F' : Nat → Prop} {v : Value} {q : Nat} (h : RowsG ty tyl sz mk w F v q) (hh : ∀ g, F g → w'.heap[g]? = w.heap[g]?) (hF : ∀ g, F g → F' g) : RowsG ty tyl sz mk w' F' v q := by
  obtain ⟨vs, h1, h2, h3⟩ := h
  refine ⟨vs, ownG_heap h1 (fun j hj => hh j (h2 j hj)), fun g hg => hF g (h2 g hg), fun i x hx => ?_⟩
  exact ⟨(h3 i x hx).1.keep (fun g hg => hh g ((h3 i x hx).2 g hg)), fun g hg => hF g ((h3 i x hx).2 g hg)⟩
theorem RowsG.keep' {ty tyl : TypeId} {sz : Nat} {mk : Int → List Value} {w w' : World} {F F' : Nat → Prop} {v : Value} {q : Nat} (h : RowsG ty tyl sz mk w F v q) (hh : ∀ g cur t, F g → w.heap[g]? = some (.cells cur t (0, 0)) → (t = ty ∨ t = tyl) → w'.heap[g]? = w.heap[g]?) (hF : ∀ g, F g → F' g) : RowsG ty tyl sz mk w' F' v q := by
  obtain ⟨vs, h1, h2, h3⟩ := h
  refine ⟨vs, ownG_heap h1 (fun j hj => ?_), fun g hg => hF g (h2 g hg), fun i x hx => ?_⟩
  · obtain ⟨cur, hc⟩ := own_typed h1 j hj
    exact hh j cur tyl (h2 j hj) hc (.inr rfl)
  · refine ⟨(h3 i x hx).1.keep (fun g hg => ?_), fun g hg => hF g ((h3 i x hx).2 g hg)⟩
    rcases (h3 i x hx).1 with e | ⟨g', cap, cur, e, _, hc, _⟩
    · rw [e] at hg; simp [Value.ownBlock] at hg
    · have : g' = g := by rw [e] at hg; simpa [Value.ownBlock] using hg
      subst this
      exact hh g' cur ty ((h3 i x hx).2 g' hg) hc (.inl rfl)
abbrev RowsP (w : World) (F : Nat → Prop) (v : Value) (q : Nat) : Prop := RowsG 75 22 4 mP w F v q
abbrev RowsV (w : World) (F : Nat → Prop) (v : Value) (q : Nat) : Prop := RowsG 55 29 4 mV w F v q
abbrev RowsW (w : World) (F : Nat → Prop) (v : Value) (q : Nat) : Prop := RowsG 61 30 2 mW w F v q
abbrev RowsT (w : World) (F : Nat → Prop) (v : Value) (q : Nat) : Prop := RowsG 71 31 3 mT w F v q
def Plus (F : Nat → Prop) (src : Value) (w w' : World) : Nat → Prop := fun y => F y ∨ src.ownBlock = some y ∨ (w.heap.size ≤ y ∧ y < w'.heap.size)
end Lw
end Go.Proofs.YtohbonfngeblkaaGreat
