import Derived.Test.YtohbonfngeblkaaGreatMnH
import Derived.Maps.AppendAt
import Derived.Laws.AppendOwnNone
namespace Go.Proofs.YtohbonfngeblkaaGreat
open Go.RowKit
namespace Lw
open Co
theorem find_at {α : Type} {p : α → Bool} {l : List α} {k : Nat} {x : α} (hn : ∀ y ∈ l.take k, p y = false) (hx : l[k]? = some x) (hp : p x = true) : l.find? p = some x := by
  obtain ⟨x', h1, h2⟩ := (find_idx p l).1 k (find_hit hn hx hp)
  rw [hx] at h1
  rw [h2, Option.some.inj h1]
theorem find_no {α : Type} {p : α → Bool} {l : List α} (hn : ∀ y ∈ l, p y = false) : l.find? p = none := (find_idx p l).2 (find_miss hn)
abbrev svA (x : Srv) : Value := .agg #[.int .i64 x.id, .string x.pool, .int .i64 x.far, .int .i64 x.client]
abbrev zSrv : Srv := ⟨0, ⟨#[]⟩, 0, 0⟩
def orS (o : Option Srv) : Srv := match o with | some s => s | none => zSrv
def isId (id : Int) (x : Srv) : Bool := x.id == id
set_option maxRecDepth 20000 in
set_option maxHeartbeats 1000000 in
theorem cWaits (ao : Option Addr) (n ac : Nat) (c : Int) (ws : List Wtr) (w : World) (hr : RowAt w (.slice ao n ac) n (flatW ws)) (hn : ws.length = n) (hlen : n ≤ maxLen) :
    Calls Tryz.prog 85 #[.slice ao n ac, .int .i64 c] w fun e w' => e = .returned (.bool (ws.find? (isCliW c)).isSome) ∧ w' = w := by
  unfold maxLen at hlen
  have HR : Hid (RowAt w (.slice ao n ac) n (flatW ws) ∧ ws.length = n) := ⟨hr, hn⟩
  clear hr hn
  go_enter Tryz.func85, Tryz.ntmps85
  go_wp2_with fail
  go_loop [5] (fun i => ∃ k : Nat, k ≤ n ∧ i = .int .i64 k ∧ Hid (∀ y ∈ ws.take k, (isCliW c) y = false)) (fun i => n - (intOf i).toNat)
  case atStart => exact ⟨0, Nat.zero_le _, rfl, by intro y hy; simp at hy⟩
  case round =>
    obtain ⟨k, hk, rfl, HT⟩ := hrel
    by_cases hlt : k < n
    · have HRW := HR.out.1
      obtain ⟨⟨x0, x1⟩, hp⟩ : ∃ p, ws[k]? = some p := ⟨_, List.getElem?_eq_getElem (by rw [HR.out.2]; exact hlt)⟩
      obtain ⟨bl, off, hao, hbl, c0, c1⟩ := wt_at HRW hp
      subst hao
      simp only at c0 c1
      have hlti : (k : Int) < (n : Int) := by omega
      clear HRW
      cases hq : (x0 == c) with
      | true =>
        have HH : Hid ((ws.find? (isCliW c)).isSome = true) := List.find?_isSome.2 ⟨_, List.mem_of_getElem? hp, hq⟩
        clear hp
        go_wp2_with fail
        go_ret
        exact ⟨by rw [HH.out]; rfl, rfl⟩
      | false =>
        have HN : Hid (∀ y ∈ ws.take (k + 1), (isCliW c) y = false) := take_next HT.out hp (by show (x0 == c) = false; exact hq)
        clear hp
        go_wp2_with fail
        go_round
        case rel => exact ⟨k + 1, by omega, by go_num, HN.out⟩
        case measure => simp [intOf]; omega
    · have HM : Hid ((ws.find? (isCliW c)).isSome = false) := by
        show _ = _
        rw [List.find?_eq_none.2 (fun y hy => by rw [HT.out y (by rw [List.take_of_length_le (by rw [HR.out.2]; omega)]; exact hy)]; simp)]
        rfl
      go_wp2_with fail
      go_ret
      exact ⟨by rw [HM.out]; rfl, rfl⟩
set_option maxRecDepth 20000 in
set_option maxHeartbeats 1000000 in
theorem cIsServer (ao : Option Addr) (n ac : Nat) (c : Int) (ss : List Srv) (w : World) (hr : RowAt w (.slice ao n ac) n (flatV ss)) (hn : ss.length = n) (hlen : n ≤ maxLen) :
    Calls Tryz.prog 68 #[.slice ao n ac, .int .i64 c] w fun e w' => e = .returned (.bool (ss.find? (isId c)).isSome) ∧ w' = w := by
  unfold maxLen at hlen
  have HR : Hid (RowAt w (.slice ao n ac) n (flatV ss) ∧ ss.length = n) := ⟨hr, hn⟩
  clear hr hn
  go_enter Tryz.func68, Tryz.ntmps68
  go_wp2_with fail
  go_loop [5] (fun i => ∃ k : Nat, k ≤ n ∧ i = .int .i64 k ∧ Hid (∀ y ∈ ss.take k, (isId c) y = false)) (fun i => n - (intOf i).toNat)
  case atStart => exact ⟨0, Nat.zero_le _, rfl, by intro y hy; simp at hy⟩
  case round =>
    obtain ⟨k, hk, rfl, HT⟩ := hrel
    by_cases hlt : k < n
    · have HRW := HR.out.1
      obtain ⟨⟨x0, x1, x2, x3⟩, hp⟩ : ∃ p, ss[k]? = some p := ⟨_, List.getElem?_eq_getElem (by rw [HR.out.2]; exact hlt)⟩
      obtain ⟨bl, off, hao, hbl, c0, c1, c2, c3⟩ := sv_at HRW hp
      subst hao
      simp only at c0 c1 c2 c3
      have hlti : (k : Int) < (n : Int) := by omega
      clear HRW
      cases hq : (x0 == c) with
      | true =>
        have HH : Hid ((ss.find? (isId c)).isSome = true) := List.find?_isSome.2 ⟨_, List.mem_of_getElem? hp, hq⟩
        clear hp
        go_wp2_with fail
        go_ret
        exact ⟨by rw [HH.out]; rfl, rfl⟩
      | false =>
        have HN : Hid (∀ y ∈ ss.take (k + 1), (isId c) y = false) := take_next HT.out hp (by show (x0 == c) = false; exact hq)
        clear hp
        go_wp2_with fail
        go_round
        case rel => exact ⟨k + 1, by omega, by go_num, HN.out⟩
        case measure => simp [intOf]; omega
    · have HM : Hid ((ss.find? (isId c)).isSome = false) := by
        show _ = _
        rw [List.find?_eq_none.2 (fun y hy => by rw [HT.out y (by rw [List.take_of_length_le (by rw [HR.out.2]; omega)]; exact hy)]; simp)]
        rfl
      go_wp2_with fail
      go_ret
      exact ⟨by rw [HM.out]; rfl, rfl⟩
set_option maxRecDepth 20000 in
set_option maxHeartbeats 1000000 in
theorem cWaitersFor (ao : Option Addr) (n ac : Nat) (pool : ByteArray) (ws : List Wtr) (w : World) (hr : RowAt w (.slice ao n ac) n (flatW ws)) (hn : ws.length = n) (hlen : n ≤ maxLen) :
    Calls Tryz.prog 81 #[.slice ao n ac, .string pool] w fun e w' => e = .returned (.int .i64 (cntG (isPoolW pool) ws : Int)) ∧ w' = w := by
  unfold maxLen at hlen
  have HR : Hid (RowAt w (.slice ao n ac) n (flatW ws) ∧ ws.length = n) := ⟨hr, hn⟩
  clear hr hn
  go_enter Tryz.func81, Tryz.ntmps81
  go_wp2_with fail
  go_loop [5, 6] (fun q i => ∃ k m : Nat, k ≤ n ∧ m ≤ k ∧ i = .int .i64 k ∧ q = .int .i64 m ∧ Hid (cntG (isPoolW pool) (ws.take k) = m)) (fun _ i => n - (intOf i).toNat)
  case atStart => exact ⟨0, 0, Nat.zero_le _, Nat.le_refl _, rfl, rfl, by show cntG _ _ = 0; simp [cntG]⟩
  case round =>
    obtain ⟨k, m, hk, hm, rfl, rfl, HT⟩ := hrel
    by_cases hlt : k < n
    · have HRW := HR.out.1
      obtain ⟨⟨x0, x1⟩, hp⟩ : ∃ p, ws[k]? = some p := ⟨_, List.getElem?_eq_getElem (by rw [HR.out.2]; exact hlt)⟩
      obtain ⟨bl, off, hao, hbl, c0, c1⟩ := wt_at HRW hp
      subst hao
      simp only at c0 c1
      have hlti : (k : Int) < (n : Int) := by omega
      clear HRW
      have hnx := cntG_next (p := isPoolW pool) hp
      rw [HT.out] at hnx
      cases hq : (x1.toList == pool.toList) with
      | true =>
        have HN : Hid (cntG (isPoolW pool) (ws.take (k + 1)) = m + 1) := by
          have hq' : (isPoolW pool) ⟨x0, x1⟩ = true := hq
          show _ = _
          rw [hnx, if_pos hq']
        clear hp hnx
        go_wp2_with fail
        go_round
        case rel => exact ⟨k + 1, m + 1, by omega, by omega, by go_num, by go_num, HN.out⟩
        case measure => simp [intOf]; omega
      | false =>
        have HN : Hid (cntG (isPoolW pool) (ws.take (k + 1)) = m) := by
          have hq' : ¬ (isPoolW pool) ⟨x0, x1⟩ = true := fun h => by rw [show (isPoolW pool) ⟨x0, x1⟩ = (x1.toList == pool.toList) from rfl, hq] at h; simp at h
          show _ = _
          rw [hnx, if_neg hq']
          rfl
        clear hp hnx
        go_wp2_with fail
        go_round
        case rel => exact ⟨k + 1, m, by omega, by omega, by go_num, rfl, HN.out⟩
        case measure => simp [intOf]; omega
    · have HM : Hid (cntG (isPoolW pool) ws = m) := by
        show _ = _
        rw [← HT.out, List.take_of_length_le (by rw [HR.out.2]; omega)]
      go_wp2_with fail
      go_ret
      exact ⟨by rw [HM.out]; rfl, rfl⟩
set_option maxRecDepth 20000 in
set_option maxHeartbeats 1000000 in
theorem cHeldBy (ao : Option Addr) (n ac : Nat) (c : Int) (ss : List Srv) (w : World) (hr : RowAt w (.slice ao n ac) n (flatV ss)) (hn : ss.length = n) (hlen : n ≤ maxLen) :
    Calls Tryz.prog 80 #[.slice ao n ac, .int .i64 c] w fun e w' => e = .returned (svA (orS (ss.find? (isCliV c)))) ∧ Below w.heap.size w w' := by
  unfold maxLen at hlen
  have HR : Hid (RowAt (w.alloc (.cells #[.int .i64 0, .string ⟨#[]⟩, .int .i64 0, .int .i64 0] 55)) (.slice ao n ac) n (flatV ss) ∧ ss.length = n) := ⟨hr.nx (nx_alloc _ _), hn⟩
  clear hr hn
  go_enter Tryz.func80, Tryz.ntmps80
  go_wp2_with fail
  go_loop [5] (fun i => ∃ k : Nat, k ≤ n ∧ i = .int .i64 k ∧ Hid (∀ y ∈ ss.take k, (isCliV c) y = false)) (fun i => n - (intOf i).toNat)
  case atStart => exact ⟨0, Nat.zero_le _, rfl, by intro y hy; simp at hy⟩
  case round =>
    obtain ⟨k, hk, rfl, HT⟩ := hrel
    by_cases hlt : k < n
    · have HRW := HR.out.1
      obtain ⟨⟨x0, x1, x2, x3⟩, hp⟩ : ∃ p, ss[k]? = some p := ⟨_, List.getElem?_eq_getElem (by rw [HR.out.2]; exact hlt)⟩
      obtain ⟨bl, off, hao, hbl, c0, c1, c2, c3⟩ := sv_at HRW hp
      subst hao
      simp only at c0 c1 c2 c3
      have hlti : (k : Int) < (n : Int) := by omega
      clear HRW
      cases hq : (x3 == c) with
      | true =>
        have HH : Hid (ss.find? (isCliV c) = some ⟨x0, x1, x2, x3⟩) := find_at HT.out hp hq
        clear hp
        go_wp2_with fail
        refine bodyPost_ret (v := svA ⟨x0, x1, x2, x3⟩) (by simp [results, Tryz.results80, go_sem]) rfl ⟨by rw [HH.out]; rfl, ?_⟩
        exact nx_alloc _ _
      | false =>
        have HN : Hid (∀ y ∈ ss.take (k + 1), (isCliV c) y = false) := take_next HT.out hp (by show (x3 == c) = false; exact hq)
        clear hp
        go_wp2_with fail
        go_round
        case rel => exact ⟨k + 1, by omega, by go_num, HN.out⟩
        case measure => simp [intOf]; omega
    · have HM : Hid (ss.find? (isCliV c) = none) := find_no (fun y hy => HT.out y (by rw [List.take_of_length_le (by rw [HR.out.2]; omega)]; exact hy))
      go_wp2_with fail
      refine bodyPost_ret (v := svA zSrv) (by simp [results, Tryz.results80, go_sem]) rfl ⟨by rw [HM.out]; rfl, ?_⟩
      exact nx_alloc _ _
theorem cFirstIdle (ao : Option Addr) (n ac : Nat) (ss : List Srv) (w : World) (hr : RowAt w (.slice ao n ac) n (flatV ss)) (hn : ss.length = n) (hlen : n ≤ maxLen) :
    Calls Tryz.prog 137 #[.slice ao n ac] w fun e w' => e = .returned (svA (orS (ss.find? (isCliV 0)))) ∧ Below w.heap.size w w' := by
  have HH := hideIt (cHeldBy ao n ac 0 ss (w.alloc (.cells #[.int .i64 0, .string ⟨#[]⟩, .int .i64 0, .int .i64 0] 55)) (hr.nx (nx_alloc _ _)) hn hlen)
  clear hr hn
  go_enter Tryz.func137, Tryz.ntmps137
  go_wp2_with fail
  refine HH.out.mono ?_
  rintro e w1 ⟨rfl, hb⟩
  obtain ⟨⟨x0, x1, x2, x3⟩, hx⟩ : ∃ x, orS (ss.find? (isCliV 0)) = x := ⟨_, rfl⟩
  rw [hx]
  have HX := hideIt hx
  obtain ⟨y0, y1, y2, y3, yz⟩ := blk4 hb (g := w.heap.size) (by simp) (heap_alloc_at _ _ rfl)
  have KB : Hid (Below w.heap.size w w1) := nx_trans (nx_alloc _ _) hb
  clear hb hx HH
  go_wp2_with fail
  refine bodyPost_ret (v := svA ⟨x0, x1, x2, x3⟩) (by simp [results, Tryz.results137, go_sem, y0, y1, y2, y3]) rfl ⟨by rw [HX.out], ?_⟩
  have hg : w.heap.size ≤ w.heap.size := Nat.le_refl _
  exact (((KB.out.setCell hg _).setCell hg _).setCell hg _).setCell hg _
abbrev zPl : Pl := ⟨⟨#[]⟩, 0, 0, 0⟩
def findV (o : Option Pl) : Value := match o with | some p => .tuple #[plA p, .bool true] | none => .tuple #[plA zPl, .bool false]
set_option maxRecDepth 20000 in
set_option maxHeartbeats 1000000 in
theorem cFind (ao : Option Addr) (n ac : Nat) (name : ByteArray) (ps : List Pl) (w : World) (hr : RowAt w (.slice ao n ac) n (flatP ps)) (hn : ps.length = n) (hlen : n ≤ maxLen) :
    Calls Tryz.prog 78 #[.slice ao n ac, .string name] w fun e w' => e = .returned (findV (ps.find? (isNameP name))) ∧ Below w.heap.size w w' := by
  unfold maxLen at hlen
  have HR : Hid (RowAt (w.alloc (bPl zPl)) (.slice ao n ac) n (flatP ps) ∧ ps.length = n) := ⟨hr.nx (nx_alloc _ _), hn⟩
  clear hr hn
  go_enter Tryz.func78, Tryz.ntmps78
  go_wp2_with fail
  go_loop [6] (fun i => ∃ k : Nat, k ≤ n ∧ i = .int .i64 k ∧ Hid (∀ y ∈ ps.take k, (isNameP name) y = false)) (fun i => n - (intOf i).toNat)
  case atStart => exact ⟨0, Nat.zero_le _, rfl, by intro y hy; simp at hy⟩
  case round =>
    obtain ⟨k, hk, rfl, HT⟩ := hrel
    by_cases hlt : k < n
    · have HRW := HR.out.1
      obtain ⟨⟨x0, x1, x2, x3⟩, hp⟩ : ∃ p, ps[k]? = some p := ⟨_, List.getElem?_eq_getElem (by rw [HR.out.2]; exact hlt)⟩
      obtain ⟨bl, off, hao, hbl, c0, c1, c2, c3⟩ := pool_at HRW hp
      subst hao
      simp only at c0 c1 c2 c3
      have hlti : (k : Int) < (n : Int) := by omega
      clear HRW
      cases hq : (x0.toList == name.toList) with
      | true =>
        have HH : Hid (ps.find? (isNameP name) = some ⟨x0, x1, x2, x3⟩) := find_at HT.out hp hq
        clear hp
        go_wp2_with fail
        refine bodyPost_ret (v := .tuple #[plA ⟨x0, x1, x2, x3⟩, .bool true]) (by simp [results, Tryz.results78, go_sem]) rfl ⟨by rw [HH.out]; rfl, ?_⟩
        exact nx_alloc _ _
      | false =>
        have HN : Hid (∀ y ∈ ps.take (k + 1), (isNameP name) y = false) := take_next HT.out hp (by show (x0.toList == name.toList) = false; exact hq)
        clear hp
        go_wp2_with fail
        go_round
        case rel => exact ⟨k + 1, by omega, by go_num, HN.out⟩
        case measure => simp [intOf]; omega
    · have HM : Hid (ps.find? (isNameP name) = none) := find_no (fun y hy => HT.out y (by rw [List.take_of_length_le (by rw [HR.out.2]; omega)]; exact hy))
      go_wp2_with fail
      refine bodyPost_ret (v := .tuple #[plA zPl, .bool false]) (by simp [results, Tryz.results78, go_sem]) rfl ⟨by rw [HM.out]; rfl, ?_⟩
      exact nx_alloc _ _
theorem cIsClient (c : Int) (w : World) : Calls Tryz.prog 76 #[.int .i64 c] w fun e w' => e = .returned (.bool (decide (1 ≤ c) && decide (c ≤ 99))) ∧ w' = w := by
  by_cases h1 : 1 ≤ c
  · by_cases h2 : c ≤ 99
    · go_enter Tryz.func76, Tryz.ntmps76
      go_wp2_with fail
      go_ret
      exact ⟨by simp [h1, h2], rfl⟩
    · go_enter Tryz.func76, Tryz.ntmps76
      go_wp2_with fail
      go_ret
      exact ⟨by simp [h2], rfl⟩
  · go_enter Tryz.func76, Tryz.ntmps76
    go_wp2_with fail
    go_ret
    exact ⟨by simp; omega, rfl⟩
end Lw
end Go.Proofs.YtohbonfngeblkaaGreat
namespace Go.Proofs.YtohbonfngeblkaaGreat
open Go.RowKit
namespace Lw
open Co
def mP (q : Int) : List Value := [.string ⟨#[]⟩, .int .i64 0, .int .i64 0, .int .i64 q]
def mV (q : Int) : List Value := [.int .i64 0, .string ⟨#[]⟩, .int .i64 q, .int .i64 0]
def mW (q : Int) : List Value := [.int .i64 q, .string ⟨#[]⟩]
def mT (q : Int) : List Value := [.int .i64 0, .string ⟨#[]⟩, .int .i64 q]
def MarkG (sz : Nat) (m : List Value) (cur : Array Value) (k : Nat) : Prop := ∀ j, j < k → ∀ (i : Nat) (x : Value), m[i]? = some x → cur[j * sz + i]? = some x
def FullG (ty : TypeId) (sz : Nat) (m : List Value) (w : World) (v : Value) : Prop :=
  v = .slice none 0 0 ∨ ∃ g cap cur, v = .slice (some ⟨g, 0, none⟩) cap cap ∧ cap ≤ maxLen ∧ w.heap[g]? = some (.cells cur ty (0, 0)) ∧ MarkG sz m cur cap
theorem FullG.keep {ty : TypeId} {sz : Nat} {m : List Value} {w w' : World} {v : Value} (h : FullG ty sz m w v) (hh : ∀ g, v.ownBlock = some g → w'.heap[g]? = w.heap[g]?) : FullG ty sz m w' v := by
  rcases h with h | ⟨g, cap, cur, h1, h2, h3, h4⟩
  · exact .inl h
  · exact .inr ⟨g, cap, cur, h1, h2, (hh g (by rw [h1]; rfl)).trans h3, h4⟩
theorem mark_zero (sz : Nat) (m : List Value) (cur : Array Value) : MarkG sz m cur 0 := fun j hj => by omega
theorem mark_4 {cur : Array Value} {k cap : Nat} {m0 m1 m2 m3 : Value} (h : MarkG 4 [m0, m1, m2, m3] cur k) (hc : cur.size = cap * 4) (hk : k < cap) :
    MarkG 4 [m0, m1, m2, m3] ((((cur.setIfInBounds (k * 4) m0).setIfInBounds (k * 4 + 1) m1).setIfInBounds (k * 4 + 2) m2).setIfInBounds (k * 4 + 3) m3) (k + 1) := by
  intro j hj i x hx
  have hi : i < 4 := (List.getElem?_eq_some_iff.1 hx).1
  have hsz : k * 4 + 3 < cur.size := by omega
  by_cases hjk : j < k
  · rw [Array.getElem?_setIfInBounds_ne (by omega), Array.getElem?_setIfInBounds_ne (by omega), Array.getElem?_setIfInBounds_ne (by omega), Array.getElem?_setIfInBounds_ne (by omega)]
    exact h j hjk i x hx
  · obtain rfl : j = k := by omega
    match i, hi, hx with
    | 0, _, hx => simp at hx; subst hx; simp only [Nat.add_zero]; rw [Array.getElem?_setIfInBounds_ne (by omega), Array.getElem?_setIfInBounds_ne (by omega), Array.getElem?_setIfInBounds_ne (by omega), Array.getElem?_setIfInBounds_self_of_lt (by omega)]
    | 1, _, hx => simp at hx; subst hx; rw [Array.getElem?_setIfInBounds_ne (by omega), Array.getElem?_setIfInBounds_ne (by omega), Array.getElem?_setIfInBounds_self_of_lt (by simp; omega)]
    | 2, _, hx => simp at hx; subst hx; rw [Array.getElem?_setIfInBounds_ne (by omega), Array.getElem?_setIfInBounds_self_of_lt (by simp; omega)]
    | 3, _, hx => simp at hx; subst hx; rw [Array.getElem?_setIfInBounds_self_of_lt (by simp; omega)]
theorem mark_3 {cur : Array Value} {k cap : Nat} {m0 m1 m2 : Value} (h : MarkG 3 [m0, m1, m2] cur k) (hc : cur.size = cap * 3) (hk : k < cap) :
    MarkG 3 [m0, m1, m2] (((cur.setIfInBounds (k * 3) m0).setIfInBounds (k * 3 + 1) m1).setIfInBounds (k * 3 + 2) m2) (k + 1) := by
  intro j hj i x hx
  have hi : i < 3 := (List.getElem?_eq_some_iff.1 hx).1
  have hsz : k * 3 + 2 < cur.size := by omega
  by_cases hjk : j < k
  · rw [Array.getElem?_setIfInBounds_ne (by omega), Array.getElem?_setIfInBounds_ne (by omega), Array.getElem?_setIfInBounds_ne (by omega)]
    exact h j hjk i x hx
  · obtain rfl : j = k := by omega
    match i, hi, hx with
    | 0, _, hx => simp at hx; subst hx; simp only [Nat.add_zero]; rw [Array.getElem?_setIfInBounds_ne (by omega), Array.getElem?_setIfInBounds_ne (by omega), Array.getElem?_setIfInBounds_self_of_lt (by omega)]
    | 1, _, hx => simp at hx; subst hx; rw [Array.getElem?_setIfInBounds_ne (by omega), Array.getElem?_setIfInBounds_self_of_lt (by simp; omega)]
    | 2, _, hx => simp at hx; subst hx; rw [Array.getElem?_setIfInBounds_self_of_lt (by simp; omega)]
theorem mark_2 {cur : Array Value} {k cap : Nat} {m0 m1 : Value} (h : MarkG 2 [m0, m1] cur k) (hc : cur.size = cap * 2) (hk : k < cap) :
    MarkG 2 [m0, m1] ((cur.setIfInBounds (k * 2) m0).setIfInBounds (k * 2 + 1) m1) (k + 1) := by
  intro j hj i x hx
  have hi : i < 2 := (List.getElem?_eq_some_iff.1 hx).1
  have hsz : k * 2 + 1 < cur.size := by omega
  by_cases hjk : j < k
  · rw [Array.getElem?_setIfInBounds_ne (by omega), Array.getElem?_setIfInBounds_ne (by omega)]
    exact h j hjk i x hx
  · obtain rfl : j = k := by omega
    match i, hi, hx with
    | 0, _, hx => simp at hx; subst hx; simp only [Nat.add_zero]; rw [Array.getElem?_setIfInBounds_ne (by omega), Array.getElem?_setIfInBounds_self_of_lt (by omega)]
    | 1, _, hx => simp at hx; subst hx; rw [Array.getElem?_setIfInBounds_self_of_lt (by simp; omega)]
theorem blkC {w : World} {g : Nat} {cur : Array Value} {t : TypeId} (h : w.heap[g]? = some (.cells cur t (0, 0))) (a : Nat) (ha : a < cur.size) : (∃ v, w.cell? ⟨g, a, none⟩ = some v) ∧ w.frozen? ⟨g, a, none⟩ = false := by
  refine ⟨⟨cur[a], ?_⟩, ?_⟩
  · simp [World.cell?, h, ha]
  · simp [World.frozen?, h]
theorem ownG_heap {w w' : World} {B : Nat} {e : TypeId} {size : Nat} {v : Value} {n : Nat} {xs : List Value} (h : w.ownsRow B e size v n xs) (hh : ∀ j, v.ownBlock = some j → w'.heap[j]? = w.heap[j]?) : w'.ownsRow B e size v n xs := by
  obtain ⟨hl, h⟩ := h
  refine ⟨hl, ?_⟩
  rcases h with h | ⟨g, cap, cur, h1, h2, hg, h4⟩
  · exact .inl h
  · exact .inr ⟨g, cap, cur, h1, h2, (hh g (by rw [h1]; rfl)).trans hg, h4⟩
def SameW (w w' : World) : Prop := w'.os = w.os ∧ w'.tape = w.tape ∧ w'.output = w.output
theorem SameW.trans {a b c : World} (h : SameW a b) (k : SameW b c) : SameW a c := ⟨k.1.trans h.1, k.2.1.trans h.2.1, k.2.2.trans h.2.2⟩
theorem sameW_set (w : World) (a : Addr) (v : Value) : SameW w (w.setCell a v) := by
  have h := (Below.refl 0 w).setCell (Nat.zero_le a.block) v
  exact ⟨h.os, h.tape, h.output⟩
theorem info_ps : (Tryz.prog.info? 22).map (fun i => (i.zero, i.size, i.bytes)) = some (some (.slice none 0 0), 1, 24) := by kernel_rfl
theorem info_vs : (Tryz.prog.info? 29).map (fun i => (i.zero, i.size, i.bytes)) = some (some (.slice none 0 0), 1, 24) := by kernel_rfl
theorem info_ws : (Tryz.prog.info? 30).map (fun i => (i.zero, i.size, i.bytes)) = some (some (.slice none 0 0), 1, 24) := by kernel_rfl
theorem info_ts : (Tryz.prog.info? 31).map (fun i => (i.zero, i.size, i.bytes)) = some (some (.slice none 0 0), 1, 24) := by kernel_rfl
end Lw
end Go.Proofs.YtohbonfngeblkaaGreat
namespace Go.Proofs.YtohbonfngeblkaaGreat
open Go.RowKit
namespace Lw
open Co
end Lw
end Go.Proofs.YtohbonfngeblkaaGreat
namespace Go.Proofs.YtohbonfngeblkaaGreat
open Go.RowKit
namespace Lw
open Co
end Lw
end Go.Proofs.YtohbonfngeblkaaGreat
namespace Go.Proofs.YtohbonfngeblkaaGreat
open Go.RowKit
namespace Lw
open Co
def RowsG (ty tyl : TypeId) (sz : Nat) (mk : Int → List Value) (w : World) (F : Nat → Prop) (v : Value) (q : Nat) : Prop :=
  ∃ vs, w.ownsRow 0 tyl 1 v q vs ∧ (∀ g, v.ownBlock = some g → F g) ∧ ∀ (i : Nat) (x : Value), vs[i]? = some x → FullG ty sz (mk ((i + 1 : Nat) : Int)) w x ∧ ∀ g, x.ownBlock = some g → F g
theorem RowsG.keep {ty tyl : TypeId} {sz : Nat} {mk : Int → List Value} {w w' : World} {F F' : Nat → Prop} {v : Value} {q : Nat} (h : RowsG ty tyl sz mk w F v q) (hh : ∀ g, F g → w'.heap[g]? = w.heap[g]?) (hF : ∀ g, F g → F' g) : RowsG ty tyl sz mk w' F' v q := by
  obtain ⟨vs, h1, h2, h3⟩ := h
  refine ⟨vs, ownG_heap h1 (fun j hj => hh j (h2 j hj)), fun g hg => hF g (h2 g hg), fun i x hx => ?_⟩
  exact ⟨(h3 i x hx).1.keep (fun g hg => hh g ((h3 i x hx).2 g hg)), fun g hg => hF g ((h3 i x hx).2 g hg)⟩
theorem RowsG.keep' {ty tyl : TypeId} {sz : Nat} {mk : Int → List Value} {w w' : World} {F F' : Nat → Prop} {v : Value} {q : Nat} (h : RowsG ty tyl sz mk w F v q) (hh : ∀ g cur t, F g → w.heap[g]? = some (.cells cur t (0, 0)) → (t = ty ∨ t = tyl) → w'.heap[g]? = w.heap[g]?) (hF : ∀ g, F g → F' g) : RowsG ty tyl sz mk w' F' v q := by
  obtain ⟨vs, h1, h2, h3⟩ := h
  refine ⟨vs, ownG_heap h1 (fun j hj => ?_), fun g hg => hF g (h2 g hg), fun i x hx => ?_⟩
  · obtain ⟨cur, hc⟩ := own_typed h1 j hj
    exact hh j cur tyl (h2 j hj) hc (.inr rfl)
  · refine ⟨(h3 i x hx).1.keep (fun g hg => ?_), fun g hg => hF g ((h3 i x hx).2 g hg)⟩
    rcases (h3 i x hx).1 with e | ⟨g', cap, cur, e, _, hc, _⟩
    · rw [e] at hg; simp [Value.ownBlock] at hg
    · have : g' = g := by rw [e] at hg; simpa [Value.ownBlock] using hg
      subst this
      exact hh g' cur ty ((h3 i x hx).2 g' hg) hc (.inl rfl)
abbrev RowsP (w : World) (F : Nat → Prop) (v : Value) (q : Nat) : Prop := RowsG 75 22 4 mP w F v q
abbrev RowsV (w : World) (F : Nat → Prop) (v : Value) (q : Nat) : Prop := RowsG 55 29 4 mV w F v q
abbrev RowsW (w : World) (F : Nat → Prop) (v : Value) (q : Nat) : Prop := RowsG 61 30 2 mW w F v q
abbrev RowsT (w : World) (F : Nat → Prop) (v : Value) (q : Nat) : Prop := RowsG 71 31 3 mT w F v q
def Plus (F : Nat → Prop) (src : Value) (w w' : World) : Nat → Prop := fun y => F y ∨ src.ownBlock = some y ∨ (w.heap.size ≤ y ∧ y < w'.heap.size)
end Lw
end Go.Proofs.YtohbonfngeblkaaGreat
namespace Go.Proofs.YtohbonfngeblkaaGreat
open Go.RowKit
namespace Lw
open Co
theorem appendG {w : World} {ops : Array Oper} {rest : List Oper} {o : Oper} {a : Act} {Q : Exit → Act → World → Prop} (ty tyl : TypeId) (sz bytes : Nat) (z : Value) (hinfo : (Tryz.prog.info? ty).map (fun i => (i.zero, i.size, i.bytes)) = some (some z, sz, bytes)) (hund : Tryz.prog.underlying tyl = some (.slice ty)) (hzs : z.cells.size = sz) (hsz : 0 < sz) (hby : bytes ≤ 64)
    (hgd : o.guard = none) (s x : Operand) (ho : o.op = .call { callee := .builtin .append, args := #[s, x], argTypes := #[tyl, tyl] }) (base : Nat)
    (v : Value) (n : Nat) (xs : List Value) (hs : a.eval s = v) (hown : w.ownsRow base ty sz v n xs)
    (so : Option Addr) (m c : Nat) (news : List Value) (hx : a.eval x = .slice so m c) (hnl : news.length = m * sz) (hrow : RowAt w (.slice so m c) m news) (hone : ∀ u ∈ news, u.oneCell' = true) (hnil : so = none → c = 0)
    (h6 : n + m ≤ 1099511627776) (hbase : base ≤ w.heap.size)
    (h : ∀ v' w', w'.ownsRow base ty sz v' (n + m) (xs ++ news) → Below base w w' → wpList Tryz.prog ops Q rest (a.put o.dst v') w') : wpList Tryz.prog ops Q (o :: rest) a w := by
  obtain ⟨t0, hi, hz0, hz1, hz2⟩ := info_parts hinfo
  cases so with
  | none =>
    have hm : m = 0 := by
      obtain ⟨ao', c', e, _, hh⟩ := hrow
      rcases hh with hh | ⟨b, off, e', _⟩
      · rw [hh] at hnl
        have h0 : m * sz = 0 := by simpa using hnl.symm
        rcases Nat.mul_eq_zero.1 h0 with h | h
        · exact h
        · omega
      · simp only [Value.slice.injEq] at e
        rw [e'] at e
        simp at e
    subst hm
    have hc : c = 0 := hnil rfl
    subst hc
    obtain rfl : news = [] := List.length_eq_zero_iff.1 (by simpa using hnl)
    refine wpList_append_own_none hgd s x tyl ho base ty t0 sz hund hi v n xs hs hown hx ?_
    exact h v w (by simpa using hown) (Below.refl _ _)
  | some ad =>
    refine wpList_append_own _ hgd s x tyl ho base ty t0 z sz bytes hund hi hz0 hz1 hz2 hzs hsz v n xs hs hown ad m c news hx hnl ?_ hone (by unfold maxLen; omega) ?_ hbase ?_
    · intro j u hj
      obtain ⟨b, off, e, _, g⟩ := hrow.at hj
      obtain rfl : ad = ⟨b, off, none⟩ := by simpa using e
      rw [show (⟨b, off, none⟩ : Addr).add j = ⟨b, off + j, none⟩ by unfold Addr.add; split <;> simp_all]
      exact g
    · have : (n + m) * bytes ≤ 1099511627776 * 64 := Nat.mul_le_mul h6 hby
      omega
    · intro v' w' ho' hg _
      exact h v' w' ho' ((Below.refl _ _).grown hg hbase (fun g hg => (hown.lt g hg).1))
theorem info_P : (Tryz.prog.info? 75).map (fun i => (i.zero, i.size, i.bytes)) = some (some (.agg #[.string ⟨#[]⟩, .int .i64 0, .int .i64 0, .int .i64 0]), 4, 40) := by kernel_rfl
theorem info_V : (Tryz.prog.info? 55).map (fun i => (i.zero, i.size, i.bytes)) = some (some (.agg #[.int .i64 0, .string ⟨#[]⟩, .int .i64 0, .int .i64 0]), 4, 40) := by kernel_rfl
theorem info_W : (Tryz.prog.info? 61).map (fun i => (i.zero, i.size, i.bytes)) = some (some (.agg #[.int .i64 0, .string ⟨#[]⟩]), 2, 24) := by kernel_rfl
theorem flatP_len : ∀ l : List Pl, (flatP l).length = l.length * 4
  | [] => rfl
  | p :: r => by simp [flatP, flatP_len r]; omega
theorem flatP_one : ∀ (l : List Pl), ∀ u ∈ flatP l, u.oneCell' = true
  | [], u, h => by simp [flatP] at h
  | p :: r, u, h => by
    simp only [flatP, List.mem_cons] at h
    rcases h with rfl | rfl | rfl | rfl | h
    · rfl
    · rfl
    · rfl
    · rfl
    · exact flatP_one r u h
theorem flatV_len (l : List Srv) : (flatV l).length = l.length * 4 := fm_len fSv 4 (fun _ => rfl) l
theorem flatW_len (l : List Wtr) : (flatW l).length = l.length * 2 := fm_len fWt 2 (fun _ => rfl) l
theorem flatV_one (l : List Srv) : ∀ u ∈ flatV l, u.oneCell' = true := fm_one fSv (fun x u hu => by simp [fSv] at hu; rcases hu with rfl | rfl | rfl | rfl <;> rfl) l
theorem flatW_one (l : List Wtr) : ∀ u ∈ flatW l, u.oneCell' = true := fm_one fWt (fun x u hu => by simp [fWt] at hu; rcases hu with rfl | rfl <;> rfl) l
theorem own_nilc {w : World} {B : Nat} {e : TypeId} {size : Nat} {so : Option Addr} {n c : Nat} {xs : List Value} (h : w.ownsRow B e size (.slice so n c) n xs) : so = none → c = 0 := by
  rintro rfl
  rcases h.2 with ⟨e, _⟩ | ⟨g, cap, cur, e, _⟩
  · simp only [Value.slice.injEq] at e; exact e.2.2
  · simp at e
set_option maxRecDepth 20000 in
set_option maxHeartbeats 2000000 in
theorem copy_any (b : Int) (ps : List Pl) (vo : Option Addr) (n vc : Nat) (w : World) (hr : RowAt w (.slice vo n vc) n (flatP ps)) (hnil : vo = none → vc = 0) (hn : ps.length = n) (hq : n ≤ 1099511627776) :
    Calls Tryz.prog 62 #[.agg #[.int .i64 b, .slice vo n vc]] w fun e w' => ∃ po pc, e = .returned (.agg #[.int .i64 b, .slice po n pc]) ∧ w'.ownsRow w.heap.size 75 4 (.slice po n pc) n (flatP ps) ∧ Below w.heap.size w w' := by
  have HN := hideIt hn
  have HNIL := hideIt hnil
  have hb0 : Below w.heap.size w ((w.alloc (bTab b (.slice vo n vc))).alloc (bTab 0 (.slice none 0 0))) := nx_trans (nx_alloc _ _) (nx_alloc _ _)
  have HR : Hid (RowAt (((w.alloc (bTab b (.slice vo n vc))).alloc (bTab 0 (.slice none 0 0))).alloc (.cells #[] 75)) (.slice vo n vc) n (flatP ps) ∧ (((w.alloc (bTab b (.slice vo n vc))).alloc (bTab 0 (.slice none 0 0))).alloc (.cells #[] 75)).ownsRow (w.heap.size + 2) 75 4 (.slice (some ⟨w.heap.size + 1 + 1, 0, none⟩) 0 0) 0 []) := by
    refine ⟨(hr.nx hb0).nx (nx_alloc _ _), ?_⟩
    have := World.ownsRow_made (base := w.heap.size + 2) (e := 75) (size := 4) ((w.alloc (bTab b (.slice vo n vc))).alloc (bTab 0 (.slice none 0 0))) #[] 0 (by simp) (Nat.zero_le _) rfl
    simpa using this
  have HB : Hid (Below w.heap.size w (((w.alloc (bTab b (.slice vo n vc))).alloc (bTab 0 (.slice none 0 0))).alloc (.cells #[] 75)) ∧ (((w.alloc (bTab b (.slice vo n vc))).alloc (bTab 0 (.slice none 0 0))).alloc (.cells #[] 75)).heap[w.heap.size]? = some (bTab b (.slice vo n vc)) ∧ (((w.alloc (bTab b (.slice vo n vc))).alloc (bTab 0 (.slice none 0 0))).alloc (.cells #[] 75)).heap[w.heap.size + 1]? = some (bTab 0 (.slice none 0 0))) := by
    refine ⟨nx_trans hb0 (nx_alloc _ _), ?_, ?_⟩
    · exact (heap_alloc_lt _ _ (by simp; omega)).trans ((heap_alloc_lt _ _ (by simp)).trans (heap_alloc_at _ _ rfl))
    · exact (heap_alloc_lt _ _ (by simp)).trans (heap_alloc_at _ _ (by simp))
  clear hb0 hr hn hnil
  go_enter Tryz.func62, Tryz.ntmps62
  go_wp2_with (at_builtin; refine appendG 75 22 4 40 _ info_P Tryz.underlying22 rfl (by decide) (by decide) rfl (.tmp 4) (.tmp 6) rfl (w.heap.size + 2) _ 0 [] rfl HR.out.2 vo n vc (flatP ps) rfl (by rw [flatP_len, HN.out]) HR.out.1 (flatP_one ps) HNIL.out (by omega) (by simp) ?next)
  case next =>
    intro v' w3 hown hb3
    obtain ⟨po, pc, rfl, _⟩ := own_row hown
    have e0 : w3.heap[w.heap.size]? = some (bTab b (.slice vo n vc)) := (hb3.block _ (by omega)).trans HB.out.2.1
    have e1 : w3.heap[w.heap.size + 1]? = some (bTab 0 (.slice none 0 0)) := (hb3.block _ (by omega)).trans HB.out.2.2
    obtain ⟨a0, a1, az⟩ := blk2 e0
    obtain ⟨b0, b1, bz⟩ := blk2 e1
    have HO : Hid (w3.ownsRow (w.heap.size + 2) 75 4 (.slice po n pc) n (flatP ps) ∧ Below w.heap.size w w3) := ⟨hown, HB.out.1.trans (hb3.mono (by omega))⟩
    clear hown hb3 e0 e1
    go_wp2_with fail
    refine bodyPost_ret (v := .agg #[.int .i64 b, .slice po n pc]) (by simp [results, Tryz.results62, go_sem, b0, b1]) rfl ⟨po, pc, rfl, ?_, ?_⟩
    · exact own_mono (ownsRow_setCell_below (ownsRow_setCell_below HO.out.1 (by show w.heap.size + 1 < _; omega) _) (by show w.heap.size + 1 < _; omega) _) (by omega)
    · exact (HO.out.2.setCell (by show w.heap.size ≤ w.heap.size + 1; omega) _).setCell (by show w.heap.size ≤ w.heap.size + 1; omega) _
end Lw
end Go.Proofs.YtohbonfngeblkaaGreat
