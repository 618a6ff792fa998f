
import Derived.Test.YtfdnfopnhhfmkaaDoorPrB
import Derived.Laws.CopyOwn
namespace Go.Proofs.YtfdnfopnhhfmkaaDoor
open Go.RowKit
namespace Pr

abbrev bTab (b : Int) (ao : Option Addr) (n c : Nat) : Obj := .cells #[.int .i64 b, .slice ao n c] 24

set_option maxHeartbeats 1000000 in
theorem same_true (b : Int) (ao1 ao2 : Option Addr) (n c1 c2 : Nat) (ps : List Pl) (w : World) (hps1 : Pools w ao1 ps) (hps2 : Pools w ao2 ps) (hn : ps.length = n) (hlen : n ≤ maxLen) :
    Calls Tryd.prog 13 #[.agg #[.int .i64 b, .slice ao1 n c1], .agg #[.int .i64 b, .slice ao2 n c2]] w fun e w' => e = .returned (.bool true) ∧ Below w.heap.size w w' := by
  unfold maxLen at hlen
  have HN : Hid (ps.length = n) := hn
  clear hn
  have HP : Hid (Pools ((w.alloc (bTab b ao1 n c1)).alloc (bTab b ao2 n c2)) ao1 ps ∧ Pools ((w.alloc (bTab b ao1 n c1)).alloc (bTab b ao2 n c2)) ao2 ps) :=
    ⟨(hps1.nx (nx_alloc _ _)).nx (nx_alloc _ _), (hps2.nx (nx_alloc _ _)).nx (nx_alloc _ _)⟩
  clear hps1 hps2
  go_enter Tryd.func13, Tryd.ntmps13
  go_wp2
  go_loopw [5] (fun i wr => ∃ (k : Nat), k ≤ n ∧ i = .int .i64 k ∧
      Below ((w.alloc (bTab b ao1 n c1)).alloc (bTab b ao2 n c2)).heap.size ((w.alloc (bTab b ao1 n c1)).alloc (bTab b ao2 n c2)) wr) (fun i _ => n - (intOf i).toNat)
  case atStart => exact ⟨0, Nat.zero_le _, rfl, Below.refl _ _⟩
  case round =>
    obtain ⟨k, hk, rfl, hbel⟩ := hrel
    have hcell : wr.cell? ⟨w.heap.size, 1, none⟩ = some (.slice ao1 n c1) := by
      refine (hbel.cell (p := ⟨w.heap.size, 1, none⟩) (by simp; omega)).trans ?_
      simp
    have hcell2 : wr.cell? ⟨w.heap.size + 1, 1, none⟩ = some (.slice ao2 n c2) := by
      refine (hbel.cell (p := ⟨w.heap.size + 1, 1, none⟩) (by simp)).trans ?_
      simp
    have HB : Hid (Below w.heap.size w wr) := nx_trans (nx_trans (nx_alloc _ _) (nx_alloc _ _)) hbel
    by_cases hlt : k < n
    · obtain ⟨⟨nm, sz, wt, fr⟩, hp⟩ : ∃ p, ps[k]? = some p := ⟨_, List.getElem?_eq_getElem (by rw [HN.out]; exact hlt)⟩
      obtain ⟨bl, off, rfl, hbl, c0, c1, c2, c3, hs⟩ := (HP.out.1.nx hbel).at hp
      obtain ⟨bl', off', rfl, hbl', d0, d1, d2, d3, hs'⟩ := (HP.out.2.nx hbel).at hp
      clear hp hs hs' hbl hbl'
      simp only at c0 c1 c2 c3 d0 d1 d2 d3
      have hlti : (k : Int) < (n : Int) := by omega
      go_wp2
      go_quiet (fail)
      go_wp2
      go_roundw
      case rel => exact ⟨k + 1, by omega, by go_num, below_drewN hbel _⟩
      case measure => simp [intOf]; omega
    · go_wp2
      go_ret
      exact ⟨rfl, HB.out⟩

abbrev sForeign : ByteArray := ⟨#[102, 111, 114, 101, 105, 103, 110]⟩
def fgn : Pl := ⟨sForeign, 7, 7, 7⟩
abbrev bFgn : Obj := .cells #[.string sForeign, .int .i64 7, .int .i64 7, .int .i64 7] 34

set_option maxHeartbeats 400000 in
theorem foreign_any (w : World) :
    Calls Tryd.prog 9 #[] w fun e w' => e = .returned (.agg #[.string sForeign, .int .i64 7, .int .i64 7, .int .i64 7]) ∧ w.alloc bFgn = w' := by
  go_enter Tryd.func9, Tryd.ntmps9
  go_wp2
  exact bodyPost_ret (v := .agg #[.string sForeign, .int .i64 7, .int .i64 7, .int .i64 7]) (by simp [results, Tryd.results9, go_sem]) rfl ⟨rfl, rfl⟩

/-- copy of elements of any width into a row that the call made -/
theorem run_copy_wide {P : Program} (w : World) (dT sT ty elem : TypeId) (size : Nat) (g dLen dCap : Nat) (so : Option Addr) (sLen sCap : Nat) (cur : Array Value) (t : TypeId) (cs : List Value)
    (hu : P.underlying dT = some (.slice elem)) (hs : (P.info? elem).map (·.size) = some size) (hpos : 0 < size)
    (hg : w.heap[g]? = some (.cells cur t (0, 0))) (hle : sLen ≤ dLen) (hn : cs.length = sLen * size)
    (hsrc : cs = [] ∨ ∃ a, so = some a ∧ ∀ j v, cs[j]? = some v → w.cell? (a.add j) = some v) (hfit : cs.length ≤ cur.size) (h1 : ∀ v ∈ cs, v.oneCell' = true) :
    (Builtin.copy_ #[dT, sT] ty #[.slice (some ⟨g, 0, none⟩) dLen dCap, .slice so sLen sCap]).run P w =
      .ok (goInt sLen) (w.setRow g (cs ++ cur.toList.drop cs.length).toArray) := by
  have hmin : Nat.min sLen dLen = sLen := Nat.min_eq_left hle
  have hst := run_storeCells_at P g 0 t cs 0 cur w hg (by simpa using hfit) h1
  simp only [Nat.add_zero, List.take_zero, List.nil_append, Nat.zero_add] at hst
  cases hq : P.info? elem with
  | none => simp [hq] at hs
  | some i =>
    have hi : i.size = size := by simpa [hq] using hs
    rcases hsrc with h0 | ⟨a, rfl, hsrc⟩
    · subst h0
      have : sLen = 0 := by
        rcases Nat.mul_eq_zero.1 (show sLen * size = 0 by simpa using hn.symm) with h | h
        · exact h
        · omega
      subst this
      have hl : ∀ (x : Addr), (loadCells x 0).run P w = .ok #[] w := fun x => by simpa using run_loadCells_list (P := P) w x [] (by simp)
      have e : w.setRow g ([] ++ cur.toList.drop ([] : List Value).length).toArray = w := by
        simpa using setRow_self w g cur t (0, 0) hg
      rw [e]
      cases so <;> simp [Builtin.copy_, run_underlying hu, Builtin.lenOf, Builtin.firstCells, sizeOf, typeInfo, hq, storeCells, hl]
    · have hl := run_loadCells_list (P := P) w a cs hsrc
      rw [hn] at hl
      simp [Builtin.copy_, run_underlying hu, Builtin.lenOf, Builtin.firstCells, sizeOf, typeInfo, hq, hi, hmin, hl, hst]

theorem wpList_copy_wide {P : Program} {w : World} {ops : Array Oper} {rest : List Oper} {o : Oper} {a : Act} {Q : Exit → Act → World → Prop} (hgd : o.guard = none) (d s : Operand) (dT sT : TypeId)
    (ho : o.op = .call { callee := .builtin .copy, args := #[d, s], argTypes := #[dT, sT] }) (elem : TypeId) (size : Nat) (hu : P.underlying dT = some (.slice elem)) (hsz : (P.info? elem).map (·.size) = some size) (hpos : 0 < size)
    (so : Option Addr) (g dLen dCap sLen sCap : Nat) (hd : a.eval d = .slice (some ⟨g, 0, none⟩) dLen dCap) (hs : a.eval s = .slice so sLen sCap)
    (cur : Array Value) (t : TypeId) (hg : w.heap[g]? = some (.cells cur t (0, 0))) (cs : List Value) (hle : sLen ≤ dLen) (hn : cs.length = sLen * size)
    (hsrc : cs = [] ∨ ∃ a, so = some a ∧ ∀ j v, cs[j]? = some v → w.cell? (a.add j) = some v) (hfit : cs.length ≤ cur.size) (h1 : ∀ v ∈ cs, v.oneCell' = true)
    (h : ∀ w', Hid (w'.heap[g]? = some (.cells (cs ++ cur.toList.drop cs.length).toArray t (0, 0)) ∧ Below g w w' ∧ w'.heap.size = w.heap.size) → wpList P ops Q rest (a.put o.dst (goInt sLen)) w') :
    wpList P ops Q (o :: rest) a w := by
  refine wpList_plain hgd fun K hK => ?_
  have hrun := run_copy_wide (P := P) w dT sT o.type elem size g dLen dCap so sLen sCap cur t cs hu hsz hpos hg hle hn hsrc hfit h1
  unfold Oper.wp
  simp [execOp, ho, resolve, invoke, builtin, hd, hs, hrun, Result.andThen]
  refine hK _ _ (h _ ⟨setRow_heap w g _ _ t _ hg, below_setRow (Below.refl _ _) (Nat.le_refl _) _, ?_⟩)
  simp [World.setRow]
end Pr
end Go.Proofs.YtfdnfopnhhfmkaaDoor
