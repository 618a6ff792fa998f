
import Derived.Test.YthkilnhdhacpaaaLwA
namespace Go.Proofs.Ythkilnhdhacpaaa
open Go.RowKit
namespace Lw
open Co

set_option maxRecDepth 20000 in
set_option maxHeartbeats 1000000 in
theorem sameS (ao1 ao2 : Option Addr) (n k1 k2 : Nat) (l : List Stp) (w : World) (hr1 : RowAt w (.slice ao1 n k1) n (flatT l)) (hr2 : RowAt w (.slice ao2 n k2) n (flatT l)) (hn : l.length = n) (hlen : n ≤ maxLen) :
    Calls Try.prog 11 #[.slice ao1 n k1, .slice ao2 n k2] w fun e w' => e = .returned (.bool true) ∧ Below w.heap.size w w' := by
  unfold maxLen at hlen
  have HP : Hid (RowAt w (.slice ao1 n k1) n (flatT l) ∧ RowAt w (.slice ao2 n k2) n (flatT l) ∧ l.length = n) := ⟨hr1, hr2, hn⟩
  clear hr1 hr2 hn
  go_enter Try.func11, Try.ntmps11
  go_wp2_with fail
  go_loopw [5] (fun i wr => ∃ (k : Nat), k ≤ n ∧ i = .int .i64 k ∧ Below w.heap.size w wr) (fun i _ => n - (intOf i).toNat)
  case atStart => exact ⟨0, Nat.zero_le _, rfl, Below.refl _ _⟩
  case round =>
    obtain ⟨k, hk, rfl, hbel⟩ := hrel
    by_cases hlt : k < n
    · obtain ⟨⟨x0, x1, x2⟩, hp⟩ : ∃ p, l[k]? = some p := ⟨_, List.getElem?_eq_getElem (by rw [HP.out.2.2]; exact hlt)⟩
      obtain ⟨bl, off, hao, hbl, c0, c1, c2⟩ := st_at (HP.out.1.nx hbel) hp
      obtain ⟨bl', off', hao', hbl', d0, d1, d2⟩ := st_at (HP.out.2.1.nx hbel) hp
      subst hao hao'
      clear hp hbl hbl'
      simp only at c0 c1 c2 d0 d1 d2
      have hlti : (k : Int) < (n : Int) := by omega
      go_wp2_with fail
      go_quiet (fail)
      go_wp2_with fail
      go_roundw
      case rel => exact ⟨k + 1, by omega, by go_num, below_drewN hbel _⟩
      case measure => simp [intOf]; omega
    · go_wp2_with fail
      go_ret
      exact ⟨rfl, hbel⟩

set_option maxRecDepth 20000 in
set_option maxHeartbeats 1000000 in
theorem sameP (b : Int) (ao1 ao2 : Option Addr) (n c1 c2 : Nat) (ps : List Pl) (w : World) (hr1 : RowAt w (.slice ao1 n c1) n (flatP ps)) (hr2 : RowAt w (.slice ao2 n c2) n (flatP ps)) (hn : ps.length = n) (hlen : n ≤ maxLen) :
    Calls Try.prog 16 #[.agg #[.int .i64 b, .slice ao1 n c1], .agg #[.int .i64 b, .slice ao2 n c2]] w fun e w' => e = .returned (.bool true) ∧ Below w.heap.size w w' := by
  unfold maxLen at hlen
  have HN : Hid (ps.length = n) := hn
  clear hn
  have HP : Hid (RowAt ((w.alloc (bTab b (.slice ao1 n c1))).alloc (bTab b (.slice ao2 n c2))) (.slice ao1 n c1) n (flatP ps) ∧ RowAt ((w.alloc (bTab b (.slice ao1 n c1))).alloc (bTab b (.slice ao2 n c2))) (.slice ao2 n c2) n (flatP ps)) :=
    ⟨(hr1.nx (nx_alloc _ _)).nx (nx_alloc _ _), (hr2.nx (nx_alloc _ _)).nx (nx_alloc _ _)⟩
  clear hr1 hr2
  go_enter Try.func16, Try.ntmps16
  go_wp2_with fail
  go_loopw [5] (fun i wr => ∃ (k : Nat), k ≤ n ∧ i = .int .i64 k ∧
      Below ((w.alloc (bTab b (.slice ao1 n c1))).alloc (bTab b (.slice ao2 n c2))).heap.size ((w.alloc (bTab b (.slice ao1 n c1))).alloc (bTab b (.slice ao2 n c2))) wr) (fun i _ => n - (intOf i).toNat)
  case atStart => exact ⟨0, Nat.zero_le _, rfl, Below.refl _ _⟩
  case round =>
    obtain ⟨k, hk, rfl, hbel⟩ := hrel
    have hcell : wr.cell? ⟨w.heap.size, 1, none⟩ = some (.slice ao1 n c1) := by
      refine (hbel.cell (p := ⟨w.heap.size, 1, none⟩) (by simp; omega)).trans ?_
      simp
    have hcell2 : wr.cell? ⟨w.heap.size + 1, 1, none⟩ = some (.slice ao2 n c2) := by
      refine (hbel.cell (p := ⟨w.heap.size + 1, 1, none⟩) (by simp)).trans ?_
      simp
    have HB : Hid (Below w.heap.size w wr) := nx_trans (nx_trans (nx_alloc _ _) (nx_alloc _ _)) hbel
    by_cases hlt : k < n
    · obtain ⟨⟨nm, sz, wt, fr⟩, hp⟩ : ∃ p, ps[k]? = some p := ⟨_, List.getElem?_eq_getElem (by rw [HN.out]; exact hlt)⟩
      obtain ⟨bl, off, hao, hbl, c0, c1', c2', c3⟩ := pool_at (HP.out.1.nx hbel) hp
      obtain ⟨bl', off', hao', hbl', d0, d1, d2, d3⟩ := pool_at (HP.out.2.nx hbel) hp
      subst hao hao'
      clear hp hbl hbl'
      simp only at c0 c1' c2' c3 d0 d1 d2 d3
      have hlti : (k : Int) < (n : Int) := by omega
      go_wp2_with fail
      go_quiet (fail)
      go_wp2_with fail
      go_roundw
      case rel => exact ⟨k + 1, by omega, by go_num, below_drewN hbel _⟩
      case measure => simp [intOf]; omega
    · go_wp2_with fail
      go_ret
      exact ⟨rfl, HB.out⟩

/-- a state's value and its lists -/
structure Sta where
  bud : Int
  pools : List Pl
  srv : List Srv
  wts : List Wtr
  plan : List Stp
  begun : Bool
  back : Bool
structure Stv where
  po : Option Addr
  pc : Nat
  so : Option Addr
  sc : Nat
  wo : Option Addr
  wc : Nat
  to : Option Addr
  tc : Nat
abbrev staA (S : Sta) (v : Stv) : Value := .agg #[.int .i64 S.bud, .slice v.po S.pools.length v.pc, .slice v.so S.srv.length v.sc, .slice v.wo S.wts.length v.wc, .slice v.to S.plan.length v.tc, .bool S.begun, .bool S.back]
/-- the lists lie there -/
structure StaAt (w : World) (S : Sta) (v : Stv) : Prop where
  p : RowAt w (.slice v.po S.pools.length v.pc) S.pools.length (flatP S.pools)
  s : RowAt w (.slice v.so S.srv.length v.sc) S.srv.length (flatV S.srv)
  t : RowAt w (.slice v.wo S.wts.length v.wc) S.wts.length (flatW S.wts)
  l : RowAt w (.slice v.to S.plan.length v.tc) S.plan.length (flatT S.plan)
theorem StaAt.nx {w w' : World} {S : Sta} {v : Stv} (h : StaAt w S v) (hb : Below w.heap.size w w') : StaAt w' S v := ⟨h.p.nx hb, h.s.nx hb, h.t.nx hb, h.l.nx hb⟩
/-- the lists are not too long -/
structure Small (S : Sta) : Prop where
  p : S.pools.length ≤ maxLen
  s : S.srv.length ≤ maxLen
  t : S.wts.length ≤ maxLen
  l : S.plan.length ≤ maxLen
theorem blk7 {W w3 : World} {B : Nat} (hb : Below B W w3) {g : Nat} (hg : g < B) {c0 c1 c2 c3 c4 c5 c6 : Value} {t : TypeId} (h : W.heap[g]? = some (.cells #[c0, c1, c2, c3, c4, c5, c6] t (0, 0))) :
    w3.cell? ⟨g, 0, none⟩ = some c0 ∧ w3.cell? ⟨g, 1, none⟩ = some c1 ∧ w3.cell? ⟨g, 2, none⟩ = some c2 ∧ w3.cell? ⟨g, 3, none⟩ = some c3 ∧ w3.cell? ⟨g, 4, none⟩ = some c4 ∧ w3.cell? ⟨g, 5, none⟩ = some c5 ∧ w3.cell? ⟨g, 6, none⟩ = some c6 := by
  have h' : w3.heap[g]? = some (.cells #[c0, c1, c2, c3, c4, c5, c6] t (0, 0)) := (hb.block g hg).trans h
  refine ⟨?_, ?_, ?_, ?_, ?_, ?_, ?_⟩ <;> simp [World.cell?, h']

end Lw
end Go.Proofs.Ythkilnhdhacpaaa
