
import Derived.Test.YtphkgbbfkibfbaaDfD
import Derived.Test.YtphkgbbfkibfbaaKpF
import Derived.Deep.DeepCutAuto
import Derived.Deep.RegionWith
import Derived.Deep.RegionLaw
import Derived.Deep.AppendLies
import Derived.Laws.OwnMore
namespace Go.Proofs.Ytphkgbbfkibfbaa
open Go.RowKit
namespace Df
open Co Lw

set_option maxRecDepth 20000 in
set_option maxHeartbeats 1000000 in
theorem kAt (b : Int) (p1 : Option Addr) (n1 p2 : Nat) (name : ByteArray) (ps : List Pl) (w : World) (hr : RowAt w (.slice p1 n1 p2) n1 (flatP ps)) (hn : ps.length = n1) (hlen : n1 ≤ maxLen) :
    Calls Try.prog 11 #[.agg #[.int .i64 b, .slice p1 n1 p2], .string name] w fun e w' => e = .returned (.int .i64 (optI (ps.findIdx? (isNameP name)))) ∧ Below w.heap.size w w' := by
  unfold maxLen at hlen
  have HR : Hid (RowAt (w.alloc (bTab b (.slice p1 n1 p2))) (.slice p1 n1 p2) n1 (flatP ps) ∧ ps.length = n1 ∧ (w.alloc (bTab b (.slice p1 n1 p2))).heap[w.heap.size]? = some (bTab b (.slice p1 n1 p2))) := ⟨hr.nx (nx_alloc _ _), hn, heap_alloc_at _ _ rfl⟩
  clear hr hn
  go_enter Try.func11, Try.ntmps11
  go_wp2_with fail
  go_loopw [5] (fun i wr => ∃ k : Nat, k ≤ n1 ∧ i = .int .i64 k ∧ Hid (∀ y ∈ ps.take k, (isNameP name) y = false) ∧ Below (w.alloc (bTab b (.slice p1 n1 p2))).heap.size (w.alloc (bTab b (.slice p1 n1 p2))) wr) (fun i _ => n1 - (intOf i).toNat)
  case atStart => exact ⟨0, Nat.zero_le _, rfl, by intro y hy; simp at hy, Below.refl _ _⟩
  case round =>
    obtain ⟨k, hk, rfl, HT, hbel⟩ := hrel
    have hbx : wr.heap[w.heap.size]? = some (bTab b (.slice p1 n1 p2)) := (hbel.block _ (by simp)).trans HR.out.2.2
    have HB : Hid (Below w.heap.size w wr) := nx_trans (nx_alloc _ _) hbel
    have hcell : wr.cell? ⟨w.heap.size, 1, none⟩ = some (.slice p1 n1 p2) := by simp [World.cell?, hbx]
    by_cases hlt : k < n1
    · obtain ⟨⟨x0, x1, x2, x3⟩, hp⟩ : ∃ p, ps[k]? = some p := ⟨_, List.getElem?_eq_getElem (by rw [HR.out.2.1]; exact hlt)⟩
      obtain ⟨bl, off, hao, hbl, c0, c1, c2, c3⟩ := pool_at (HR.out.1.nx hbel) hp
      subst hao
      simp only at c0 c1 c2 c3
      have hlti : (k : Int) < (n1 : Int) := by omega
      cases hq : (x0.toList == name.toList) with
      | true =>
        have HH : Hid (ps.findIdx? (isNameP name) = some k) := find_hit HT.out hp (by show (x0.toList == name.toList) = true; exact hq)
        clear hp hbx
        go_wp2_with fail
        go_ret
        exact ⟨by rw [HH.out]; rfl, HB.out⟩
      | false =>
        have HN : Hid (∀ y ∈ ps.take (k + 1), (isNameP name) y = false) := take_next HT.out hp (by show (x0.toList == name.toList) = false; exact hq)
        clear hp hbx
        go_wp2_with fail
        go_roundw
        case rel => exact ⟨k + 1, by omega, by go_num, HN.out, hbel⟩
        case measure => simp [intOf]; omega
    · have HM : Hid (ps.findIdx? (isNameP name) = none) := find_miss (fun y hy => HT.out y (by rw [List.take_of_length_le (by rw [HR.out.2.1]; omega)]; exact hy))
      clear hbx
      go_wp2_with fail
      go_ret
      exact ⟨by rw [HM.out]; rfl, HB.out⟩

theorem blk3s {w : World} {g : Nat} {c0 c1 c2 : Value} {t : TypeId} (h : w.heap[g]? = some (.cells #[c0, c1, c2] t (0, 0))) :
    w.cell? ⟨g, 0, none⟩ = some c0 ∧ w.cell? ⟨g, 1, none⟩ = some c1 ∧ w.cell? ⟨g, 2, none⟩ = some c2 ∧ ∀ a, w.frozen? ⟨g, a, none⟩ = false := by
  refine ⟨?_, ?_, ?_, fun a => ?_⟩ <;> simp [World.cell?, World.frozen?, h]
abbrev bStp (k : Int) (nm : ByteArray) (n : Int) : Obj := .cells #[.int .i64 k, .string nm, .int .i64 n] 31
abbrev sA (k : Int) (nm : ByteArray) (n : Int) : Value := .agg #[.int .i64 k, .string nm, .int .i64 n]
theorem blk_nx {u v : World} {g : Nat} {o : Obj} (h : u.heap[g]? = some o) (hb : Below u.heap.size u v) : v.heap[g]? = some o := (hb.block g (Array.getElem?_eq_some_iff.1 h).1).trans h
theorem add_plain' (b off j : Nat) : (⟨b, off, none⟩ : Addr).add j = ⟨b, off + j, none⟩ := by
  unfold Addr.add; split <;> simp_all
/-- what step gives where the step may stand there -/
def GaveT (w w' : World) (b : Int) (ts : List Pl) (e : Ending) : Prop :=
  ∃ vo vc, e = .returned (.tuple #[.agg #[.int .i64 b, .slice vo ts.length vc], .bool true]) ∧ RowAt w' (.slice vo ts.length vc) ts.length (flatP ts) ∧ (vo = none → vc = 0) ∧ (∀ g off, vo = some ⟨g, off, none⟩ → w.heap.size ≤ g) ∧ Below w.heap.size w w'
theorem GaveT.drew {w u : World} {b : Int} {ts : List Pl} {e : Ending} (h : GaveT w u b ts e) : GaveT w u.drew b ts e := by
  obtain ⟨vo, vc, h1, h2, h3, h4, h5⟩ := h
  exact ⟨vo, vc, h1, h2, h3, h4, h5.drew⟩
/-- the world of step behind its first three rows: go lies the copy -/
structure Mid (w : World) (b : Int) (sv : Value) (k : Int) (nm : ByteArray) (N : Int) (go : Nat) (vo : Option Addr) (n vc : Nat) (ts : List Pl) (u : World) : Prop where
  h0 : u.heap[w.heap.size]? = some (bTab b sv)
  h1 : u.heap[w.heap.size + 1]? = some (bStp k nm N)
  h2 : u.heap[w.heap.size + 1 + 1]? = some (bTab 0 (.slice none 0 0))
  h3 : u.heap[go]? = some (bTab b (.slice vo n vc))
  own : u.ownsRow (go + 1) 37 4 (.slice vo n vc) n (flatP ts)
  bel : Below w.heap.size w u
  go : w.heap.size + 3 ≤ go
theorem Mid.nx {w : World} {b : Int} {sv : Value} {k : Int} {nm : ByteArray} {N : Int} {go : Nat} {vo : Option Addr} {n vc : Nat} {ts : List Pl} {u v : World} (h : Mid w b sv k nm N go vo n vc ts u) (hb : Below u.heap.size u v) : Mid w b sv k nm N go vo n vc ts v :=
  ⟨blk_nx h.h0 hb, blk_nx h.h1 hb, blk_nx h.h2 hb, blk_nx h.h3 hb, own_below h.own hb, nx_trans h.bel hb, h.go⟩
theorem flatP_set : ∀ (l : List Pl) (i : Nat) (x : Pl), l[i]? = some x →
    (∀ c, (flatP l).set (i * 4 + 1) (.int .i64 c) = flatP (l.set i ⟨x.nm, c, x.wt, x.fr⟩)) ∧ (∀ c, (flatP l).set (i * 4 + 2) (.int .i64 c) = flatP (l.set i ⟨x.nm, x.sz, c, x.fr⟩)) ∧ (∀ c, (flatP l).set (i * 4 + 3) (.int .i64 c) = flatP (l.set i ⟨x.nm, x.sz, x.wt, c⟩))
  | [], i, x, h => by simp at h
  | y :: l, 0, x, h => by
    obtain rfl : y = x := by simpa using h
    exact ⟨fun c => rfl, fun c => rfl, fun c => rfl⟩
  | y :: l, i + 1, x, h => by
    obtain ⟨h1, h2, h3⟩ := flatP_set l i x (by simpa using h)
    refine ⟨fun c => ?_, fun c => ?_, fun c => ?_⟩
    · rw [show (i + 1) * 4 + 1 = (i * 4 + 1) + 1 + 1 + 1 + 1 by omega]
      show _ :: _ :: _ :: _ :: (flatP l).set (i * 4 + 1) (.int .i64 c) = _ :: _ :: _ :: _ :: flatP (l.set i _)
      rw [h1]
    · rw [show (i + 1) * 4 + 2 = (i * 4 + 2) + 1 + 1 + 1 + 1 by omega]
      show _ :: _ :: _ :: _ :: (flatP l).set (i * 4 + 2) (.int .i64 c) = _ :: _ :: _ :: _ :: flatP (l.set i _)
      rw [h2]
    · rw [show (i + 1) * 4 + 3 = (i * 4 + 3) + 1 + 1 + 1 + 1 by omega]
      show _ :: _ :: _ :: _ :: (flatP l).set (i * 4 + 3) (.int .i64 c) = _ :: _ :: _ :: _ :: flatP (l.set i _)
      rw [h3]
/-- the world behind the last row but one: what is returned lies in go -/
structure Fin (w : World) (k : Int) (nm : ByteArray) (N : Int) (go : Nat) (b : Int) (vo : Option Addr) (n vc : Nat) (ts : List Pl) (u : World) : Prop where
  h1 : u.heap[w.heap.size + 1]? = some (bStp k nm N)
  h2 : u.heap[w.heap.size + 1 + 1]? = some (bTab 0 (.slice none 0 0))
  h3 : u.heap[go]? = some (bTab b (.slice vo n vc))
  own : u.ownsRow (go + 1) 37 4 (.slice vo n vc) n (flatP ts)
  bel : Below w.heap.size w u
  go : w.heap.size + 3 ≤ go
theorem Fin.gave {w : World} {k : Int} {nm : ByteArray} {N : Int} {go : Nat} {b : Int} {vo : Option Addr} {n vc : Nat} {ts : List Pl} {u : World} (h : Fin w k nm N go b vo n vc ts u) (hn : ts.length = n) :
    GaveT w ((u.setCell ⟨w.heap.size + 1 + 1, 0, none⟩ (.int .i64 b)).setCell ⟨w.heap.size + 1 + 1, 1, none⟩ (.slice vo n vc)) b ts (.returned (.tuple #[.agg #[.int .i64 b, .slice vo n vc], .bool true])) := by
  subst hn
  have hgo := h.go
  refine ⟨vo, vc, rfl, ?_, own_nilc h.own, fun g off e => by have := (h.own.lt g (by rw [e]; rfl)).1; omega, ?_⟩
  · exact own_row (ownsRow_setCell_below (ownsRow_setCell_below h.own (by show w.heap.size + 1 + 1 < _; omega) _) (by show w.heap.size + 1 + 1 < _; omega) _)
  · exact (h.bel.setCell (by show w.heap.size ≤ w.heap.size + 1 + 1; omega) _).setCell (by show w.heap.size ≤ w.heap.size + 1 + 1; omega) _
theorem row_set {w : World} {vo : Option Addr} {n c : Nat} {cs : List Value} (h : RowAt w (.slice vo n c) n cs) {b a : Nat} {x : Value} (hne : ∀ g off, vo = some ⟨g, off, none⟩ → g ≠ b) : RowAt (w.setCell ⟨b, a, none⟩ x) (.slice vo n c) n cs := by
  obtain ⟨ao, cap, e, hc, hh⟩ := h
  simp only [Value.slice.injEq] at e
  obtain ⟨rfl, _, rfl⟩ := e
  refine ⟨vo, c, rfl, hc, ?_⟩
  rcases hh with hh | ⟨g, off, e, hg, hx⟩
  · exact .inl hh
  · refine .inr ⟨g, off, e, by simpa using hg, fun j y hy => ?_⟩
    rw [World.cell?_of_block (Below.heap_setCell _ _ _ _ (hne g off e))]
    exact hx j y hy
/-- as Fin, where the list is no longer one's own -/
structure FinR (w : World) (k : Int) (nm : ByteArray) (N : Int) (go : Nat) (b : Int) (vo : Option Addr) (n vc : Nat) (ts : List Pl) (u : World) : Prop where
  h1 : u.heap[w.heap.size + 1]? = some (bStp k nm N)
  h2 : u.heap[w.heap.size + 1 + 1]? = some (bTab 0 (.slice none 0 0))
  h3 : u.heap[go]? = some (bTab b (.slice vo n vc))
  row : RowAt u (.slice vo n vc) n (flatP ts)
  nil : vo = none → vc = 0
  far : ∀ g off, vo = some ⟨g, off, none⟩ → w.heap.size + 3 ≤ g
  bel : Below w.heap.size w u
theorem FinR.gave {w : World} {k : Int} {nm : ByteArray} {N : Int} {go : Nat} {b : Int} {vo : Option Addr} {n vc : Nat} {ts : List Pl} {u : World} (h : FinR w k nm N go b vo n vc ts u) (hn : ts.length = n) :
    GaveT w ((u.setCell ⟨w.heap.size + 1 + 1, 0, none⟩ (.int .i64 b)).setCell ⟨w.heap.size + 1 + 1, 1, none⟩ (.slice vo n vc)) b ts (.returned (.tuple #[.agg #[.int .i64 b, .slice vo n vc], .bool true])) := by
  subst hn
  have hf : ∀ g off, vo = some ⟨g, off, none⟩ → g ≠ w.heap.size + 1 + 1 := fun g off e => by have := h.far g off e; omega
  refine ⟨vo, vc, rfl, row_set (row_set h.row hf) hf, h.nil, fun g off e => by have := h.far g off e; omega, ?_⟩
  exact (h.bel.setCell (by show w.heap.size ≤ w.heap.size + 1 + 1; omega) _).setCell (by show w.heap.size ≤ w.heap.size + 1 + 1; omega) _
end Df
end Go.Proofs.Ytphkgbbfkibfbaa
