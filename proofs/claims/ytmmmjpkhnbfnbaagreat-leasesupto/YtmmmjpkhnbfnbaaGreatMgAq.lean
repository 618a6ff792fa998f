import Derived.Test.YtmmmjpkhnbfnbaaGreatMgM
import Derived.Test.YtmmmjpkhnbfnbaaGreatMgAe
import Derived.Test.YtmmmjpkhnbfnbaaGreatMgAn
namespace Go.Proofs.YtmmmjpkhnbfnbaaGreat
open Go.RowKit
namespace Lw
open Co

/-- a text's table has few pools -/
theorem rdC_len : ∀ (ps : List ByteArray) (i : Nat) (acc : List Ln), (rdC i acc ps).lines.length ≤ acc.length + ps.length
  | [], i, acc => by
    rw [rdC]
    split <;> simp
  | p :: r, i, acc => by
    rw [rdC]
    split
    · have := rdC_len r (i + 1) acc
      simp; omega
    · split
      · simp
      · split
        · rename_i l _ _
          have := rdC_len r (i + 1) (acc ++ [{ l with place := i + 1 }])
          simp at this ⊢; omega
        · simp
theorem tabC_len (all : List Ln) : ∀ (ls : List Ln) (x : Int × List Pl), (ls.foldl (stC all) x).2.length ≤ x.2.length + ls.length
  | [], x => by simp
  | l :: r, x => by
    have := tabC_len all r (stC all x l)
    rw [List.foldl_cons]
    have h : (stC all x l).2.length ≤ x.2.length + 1 := by
      unfold stC
      split
      · simp
      · split
        · simp [insP_len]
        · omega
    simp; omega
theorem ans_len (s : ByteArray) : (ans s).tab.2.length ≤ 1001 := by
  unfold ans
  split
  · simp
  · split
    · simp
    · split
      · simp
      · rename_i h _ _
        have h1 := tabC_len (rd s).lines (rd s).lines (0, [])
        have h2 : (rd s).lines.length ≤ 0 + (pieces s 10).length := rdC_len _ _ _
        have h3 := pieces_len s 10
        have h4 : (tabC (rd s).lines).2.length ≤ 0 + (rd s).lines.length := h1
        simp only
        omega
theorem ans_ok (s : ByteArray) (h : (ans s).err = 0) : (ans s).at' = 0 := by
  unfold ans at h ⊢
  split at h
  · simp at h
  · rename_i h0
    rw [if_neg h0]
    split at h
    · rename_i h1; exact absurd h h1
    · rename_i h1
      rw [if_neg h1]
      split at h
      · rename_i h2; exact absurd h h2
      · rename_i h2; rw [if_neg h2]
theorem ans_bad (s : ByteArray) (h : (ans s).err ≠ 0) : (ans s).tab = (0, []) := by
  unfold ans at h ⊢
  split at h
  · rename_i h0; rw [if_pos h0]
  · rename_i h0
    rw [if_neg h0]
    split at h
    · rename_i h1; rw [if_pos h1]
    · rename_i h1
      rw [if_neg h1]
      split at h
      · rename_i h2; rw [if_pos h2]
      · exact absurd rfl h
abbrev zDesk : Obj := .cells #[.int .i64 0, .slice none 0 0, .slice none 0 0, .slice none 0 0, .int .i64 0] 80

set_option maxRecDepth 20000 in
set_option maxHeartbeats 2000000 in
theorem open_any (b : Int) (ps : List Pl) (vo : Option Addr) (n vc : Nat) (w : World) (hr : RowAt w (.slice vo n vc) n (flatP ps)) (hnil : vo = none → vc = 0) (hn : ps.length = n) (hq : n ≤ 1099511627776) :
    Calls Tryz.prog 22 #[.agg #[.int .i64 b, .slice vo n vc]] w fun e w' => ∃ po pc, e = .returned (.agg #[.int .i64 b, .slice po n pc, .slice none 0 0, .slice none 0 0, .int .i64 0]) ∧ w'.ownsRow w.heap.size 70 4 (.slice po n pc) n (flatP ps) ∧ Below w.heap.size w w' := by
  have hb0 : Below w.heap.size w ((w.alloc (bTab b (.slice vo n vc))).alloc zDesk) := nx_trans (nx_alloc _ _) (nx_alloc _ _)
  have HC := hideIt (copy_any b ps vo n vc ((w.alloc (bTab b (.slice vo n vc))).alloc zDesk) (hr.nx hb0) hnil hn hq)
  have HZ : Hid (Below w.heap.size w ((w.alloc (bTab b (.slice vo n vc))).alloc zDesk) ∧ ((w.alloc (bTab b (.slice vo n vc))).alloc zDesk).heap[w.heap.size + 1]? = some zDesk) := ⟨hb0, heap_alloc_at _ _ (by simp)⟩
  clear hr hnil hn hq hb0
  go_enter Tryz.func22, Tryz.ntmps22
  go_wp2_with fail
  refine HC.out.mono ?_
  rintro e w1 ⟨po, pc, rfl, hown, hb1⟩
  have hz : w1.heap[w.heap.size + 1]? = some zDesk := (hb1.block _ (by simp)).trans HZ.out.2
  have K : Hid (w1.ownsRow (w.heap.size + 2) 70 4 (.slice po n pc) n (flatP ps) ∧ Below w.heap.size w w1) := ⟨by simpa using hown, nx_trans HZ.out.1 hb1⟩
  obtain ⟨y0, y1, y2, y3, y4, yz⟩ := blk5e hz
  clear hown hb1 hz HC
  go_wp2_with fail
  refine bodyPost_ret (v := .agg #[.int .i64 b, .slice po n pc, .slice none 0 0, .slice none 0 0, .int .i64 0]) (by simp [results, Tryz.results22, go_sem, y0, y1, y2, y3, y4]) rfl ⟨po, pc, rfl, ?_, ?_⟩
  · refine own_mono (ownG_heap K.out.1 (fun j hj => ?_)) (by omega)
    have hne : j ≠ w.heap.size + 1 := by have := (K.out.1.lt j hj).1; omega
    exact (Below.heap_setCell _ _ _ _ hne).trans ((Below.heap_setCell _ _ _ _ hne).trans ((Below.heap_setCell _ _ _ _ hne).trans ((Below.heap_setCell _ _ _ _ hne).trans (Below.heap_setCell _ _ _ _ hne))))
  · have hg : w.heap.size ≤ w.heap.size + 1 := by omega
    exact ((((K.out.2.setCell hg _).setCell hg _).setCell hg _).setCell hg _).setCell hg _
/-- a pooler that has just begun -/
abbrev staNew (a : Ans) : Sta := ⟨a.tab.1, a.tab.2, [], [], [], false, false⟩

/-- what New answers -/
def NewG (a : Ans) (w w' : World) (e : Ending) : Prop :=
  (a.err ≠ 0 ∧ e = .returned (.tuple #[.pointer none, .int .i64 a.err, .int .i64 a.at']) ∧ Below w.heap.size w w') ∨
  (a.err = 0 ∧ ∃ gp F, e = .returned (.tuple #[.pointer (some ⟨gp, 0, none⟩), .int .i64 0, .int .i64 0]) ∧ DeskAt w' gp (staNew a) ⟨0, 0, []⟩ F ∧ (∀ y, F y → w.heap.size ≤ y) ∧ Below w.heap.size w w')

set_option maxRecDepth 20000 in
set_option maxHeartbeats 2000000 in
theorem new_any (s : ByteArray) (w : World) (hs : s.size ≤ maxLen) :
    Calls Tryz.prog 9 #[.string s] w fun e w' => NewG (ans s) w w' e := by
  have HC := hideIt (compile_any s w hs)
  have HL := hideIt (ans_len s)
  have HBAD := hideIt (ans_bad s)
  obtain ⟨⟨⟨b, ps⟩, er, pl⟩, ha⟩ : ∃ a, ans s = a := ⟨_, rfl⟩
  rw [ha] at HC HL HBAD ⊢
  simp only at HL HBAD
  unfold maxLen at hs
  clear ha
  go_enter Tryz.func9, Tryz.ntmps9
  go_wp2_with fail
  refine HC.out.mono ?_
  rintro e w1 ⟨vo, vc, rfl, hown, hb1⟩
  simp only at hown ⊢
  obtain ⟨m, hm⟩ : ∃ m, ps.length = m := ⟨_, rfl⟩
  rw [hm] at hown ⊢
  have hm1 : m ≤ 1001 := by rw [← hm]; exact HL.out
  have K1 : Hid (w1.ownsRow w.heap.size 70 4 (.slice vo m vc) m (flatP ps) ∧ Below w.heap.size w w1 ∧ ps.length = m) := ⟨hown, hb1, hm⟩
  by_cases her : er = 0
  · subst her
    have HO := hideIt (open_any b ps vo m vc (w1.alloc (bTab b (.slice vo m vc))) ((own_row hown).nx (nx_alloc _ _)) (own_nilc hown) hm (by omega))
    clear hown hb1 hm HC
    go_wp2_with fail
    refine HO.out.mono ?_
    rintro e w2 ⟨po, pc, rfl, hown2, hb2⟩
    have hsz : w.heap.size ≤ w2.heap.size := Nat.le_trans K1.out.2.1.size (Nat.le_trans (by simp) hb2.size)
    have K2 : Hid ((w2.alloc (bDesk b po m pc none 0 0 none 0 0 0 ⟨.slice none 0 0, false, false, 0, .slice none 0 0⟩)).ownsRow 0 70 4 (.slice po m pc) m (flatP ps) ∧ (∀ g, (Value.slice po m pc).ownBlock = some g → w.heap.size ≤ g ∧ g < w2.heap.size) ∧ Below w.heap.size w (w2.alloc (bDesk b po m pc none 0 0 none 0 0 0 ⟨.slice none 0 0, false, false, 0, .slice none 0 0⟩)) ∧ w.heap.size ≤ w2.heap.size) := by
      refine ⟨own_mono (hown2.alloc _) (Nat.zero_le _), fun g hg => ?_, ?_, hsz⟩
      · have := hown2.lt g hg
        have h1 := K1.out.2.1.size
        simp at this
        omega
      · exact (nx_trans (nx_trans K1.out.2.1 (nx_alloc _ _)) hb2).alloc hsz _
    clear hown2 hb2 hsz HO
    go_wp2_with fail
    refine bodyPost_ret (v := .tuple #[.pointer (some ⟨w2.heap.size, 0, none⟩), .int .i64 0, .int .i64 0]) (by simp [results, Tryz.results9, go_sem]) rfl ?_
    refine .inr ⟨rfl, w2.heap.size, fun y => y = w2.heap.size ∨ (Value.slice po m pc).ownBlock = some y, rfl, ?_, fun y hy => ?_, K2.out.2.2.1⟩
    · refine ⟨⟨po, pc, none, 0, none, 0, none, 0, none, 0, ?_, ⟨?_, fun g hg => .inr ?_⟩, Held.nil, Held.nil, Held.nil, Held.nil⟩, .inl rfl, fun x hx => ?_⟩
      · simp only [K1.out.2.2]; exact heap_alloc_at _ _ rfl
      · simp only [K1.out.2.2]; exact K2.out.1
      · simp only [K1.out.2.2] at hg; exact hg
      · rcases hx with hx | hx
        · rw [hx]; simp
        · have := (K2.out.2.1 x hx).2; simp; omega
    · rcases hy with hy | hy
      · rw [hy]; exact K2.out.2.2.2
      · exact (K2.out.2.1 y hy).1
  · have herb : ((er : Int) != 0) = true := by rw [bne_iff_ne]; omega
    have HE := hideIt her
    clear hown hb1 hm her HC
    go_wp2_with fail
    refine bodyPost_ret (v := .tuple #[.pointer none, .int .i64 er, .int .i64 pl]) (by simp [results, Tryz.results9, go_sem]) rfl ?_
    exact .inl ⟨HE.out, rfl, (K1.out.2.1.alloc K1.out.2.1.size _)⟩
end Lw
end Go.Proofs.YtmmmjpkhnbfnbaaGreat
namespace Go.Proofs.YtmmmjpkhnbfnbaaGreat
open Go.RowKit
namespace Lw
open Co

abbrev wldA (b : Int) (v1 : Value) (nx : Int) : Value := .agg #[.int .i64 b, v1, .slice none 0 0, .slice none 0 0, .slice none 0 0, .bool false, .bool false, .int .i64 nx, .int .i64 0, .slice none 0 0]
abbrev bWld (b : Int) (v1 : Value) (nx : Int) : Obj := .cells #[.int .i64 b, v1, .slice none 0 0, .slice none 0 0, .slice none 0 0, .bool false, .bool false, .int .i64 nx, .int .i64 0, .slice none 0 0] 38
theorem blk10d {w : World} {g : Nat} {c0 c1 c2 c3 c4 c5 c6 c7 c8 c9 : Value} {t : TypeId} (h : w.heap[g]? = some (.cells #[c0, c1, c2, c3, c4, c5, c6, c7, c8, c9] t (0, 0))) :
    w.cell? ⟨g, 0, none⟩ = some c0 ∧ w.cell? ⟨g, 1, none⟩ = some c1 ∧ w.cell? ⟨g, 2, none⟩ = some c2 ∧ w.cell? ⟨g, 3, none⟩ = some c3 ∧ w.cell? ⟨g, 4, none⟩ = some c4 ∧ w.cell? ⟨g, 5, none⟩ = some c5 ∧ w.cell? ⟨g, 6, none⟩ = some c6 ∧ w.cell? ⟨g, 7, none⟩ = some c7 ∧ w.cell? ⟨g, 8, none⟩ = some c8 ∧ w.cell? ⟨g, 9, none⟩ = some c9 ∧ ∀ a, w.frozen? ⟨g, a, none⟩ = false := by
  refine ⟨?_, ?_, ?_, ?_, ?_, ?_, ?_, ?_, ?_, ?_, fun a => ?_⟩ <;> simp [World.cell?, World.frozen?, h]
abbrev set10 (W : World) (g : Nat) (c0 c1 c2 c3 c4 c5 c6 c7 c8 c9 : Value) : World :=
  (((((((((W.setCell ⟨g, 0, none⟩ c0).setCell ⟨g, 1, none⟩ c1).setCell ⟨g, 2, none⟩ c2).setCell ⟨g, 3, none⟩ c3).setCell ⟨g, 4, none⟩ c4).setCell ⟨g, 5, none⟩ c5).setCell ⟨g, 6, none⟩ c6).setCell ⟨g, 7, none⟩ c7).setCell ⟨g, 8, none⟩ c8).setCell ⟨g, 9, none⟩ c9
theorem set10_heap (W : World) (g : Nat) (c0 c1 c2 c3 c4 c5 c6 c7 c8 c9 : Value) (j : Nat) (hj : j ≠ g) : (set10 W g c0 c1 c2 c3 c4 c5 c6 c7 c8 c9).heap[j]? = W.heap[j]? := by
  refine (Below.heap_setCell _ _ _ _ hj).trans ((Below.heap_setCell _ _ _ _ hj).trans ((Below.heap_setCell _ _ _ _ hj).trans ((Below.heap_setCell _ _ _ _ hj).trans ((Below.heap_setCell _ _ _ _ hj).trans ((Below.heap_setCell _ _ _ _ hj).trans ((Below.heap_setCell _ _ _ _ hj).trans ((Below.heap_setCell _ _ _ _ hj).trans ((Below.heap_setCell _ _ _ _ hj).trans (Below.heap_setCell _ _ _ _ hj)))))))))
theorem set10_below {B : Nat} {w0 W : World} (h : Below B w0 W) (g : Nat) (hg : B ≤ g) (c0 c1 c2 c3 c4 c5 c6 c7 c8 c9 : Value) : Below B w0 (set10 W g c0 c1 c2 c3 c4 c5 c6 c7 c8 c9) :=
  (((((((((h.setCell hg _).setCell hg _).setCell hg _).setCell hg _).setCell hg _).setCell hg _).setCell hg _).setCell hg _).setCell hg _).setCell hg _
theorem set10_self (W : World) (g : Nat) (d0 d1 d2 d3 d4 d5 d6 d7 d8 d9 c0 c1 c2 c3 c4 c5 c6 c7 c8 c9 : Value) (t : TypeId) (h : W.heap[g]? = some (.cells #[d0, d1, d2, d3, d4, d5, d6, d7, d8, d9] t (0, 0))) : (set10 W g c0 c1 c2 c3 c4 c5 c6 c7 c8 c9).heap[g]? = some (.cells #[c0, c1, c2, c3, c4, c5, c6, c7, c8, c9] t (0, 0)) := by
  have h0 : (W.setCell ⟨g, 0, none⟩ c0).heap[g]? = some (.cells #[c0, d1, d2, d3, d4, d5, d6, d7, d8, d9] t (0, 0)) := set_heap _ g 0 _ _ _ h
  have h1 : ((W.setCell ⟨g, 0, none⟩ c0).setCell ⟨g, 1, none⟩ c1).heap[g]? = some (.cells #[c0, c1, d2, d3, d4, d5, d6, d7, d8, d9] t (0, 0)) := set_heap _ g 1 _ _ _ h0
  have h2 : (((W.setCell ⟨g, 0, none⟩ c0).setCell ⟨g, 1, none⟩ c1).setCell ⟨g, 2, none⟩ c2).heap[g]? = some (.cells #[c0, c1, c2, d3, d4, d5, d6, d7, d8, d9] t (0, 0)) := set_heap _ g 2 _ _ _ h1
  have h3 : ((((W.setCell ⟨g, 0, none⟩ c0).setCell ⟨g, 1, none⟩ c1).setCell ⟨g, 2, none⟩ c2).setCell ⟨g, 3, none⟩ c3).heap[g]? = some (.cells #[c0, c1, c2, c3, d4, d5, d6, d7, d8, d9] t (0, 0)) := set_heap _ g 3 _ _ _ h2
  have h4 : (((((W.setCell ⟨g, 0, none⟩ c0).setCell ⟨g, 1, none⟩ c1).setCell ⟨g, 2, none⟩ c2).setCell ⟨g, 3, none⟩ c3).setCell ⟨g, 4, none⟩ c4).heap[g]? = some (.cells #[c0, c1, c2, c3, c4, d5, d6, d7, d8, d9] t (0, 0)) := set_heap _ g 4 _ _ _ h3
  have h5 : ((((((W.setCell ⟨g, 0, none⟩ c0).setCell ⟨g, 1, none⟩ c1).setCell ⟨g, 2, none⟩ c2).setCell ⟨g, 3, none⟩ c3).setCell ⟨g, 4, none⟩ c4).setCell ⟨g, 5, none⟩ c5).heap[g]? = some (.cells #[c0, c1, c2, c3, c4, c5, d6, d7, d8, d9] t (0, 0)) := set_heap _ g 5 _ _ _ h4
  have h6 : (((((((W.setCell ⟨g, 0, none⟩ c0).setCell ⟨g, 1, none⟩ c1).setCell ⟨g, 2, none⟩ c2).setCell ⟨g, 3, none⟩ c3).setCell ⟨g, 4, none⟩ c4).setCell ⟨g, 5, none⟩ c5).setCell ⟨g, 6, none⟩ c6).heap[g]? = some (.cells #[c0, c1, c2, c3, c4, c5, c6, d7, d8, d9] t (0, 0)) := set_heap _ g 6 _ _ _ h5
  have h7 : ((((((((W.setCell ⟨g, 0, none⟩ c0).setCell ⟨g, 1, none⟩ c1).setCell ⟨g, 2, none⟩ c2).setCell ⟨g, 3, none⟩ c3).setCell ⟨g, 4, none⟩ c4).setCell ⟨g, 5, none⟩ c5).setCell ⟨g, 6, none⟩ c6).setCell ⟨g, 7, none⟩ c7).heap[g]? = some (.cells #[c0, c1, c2, c3, c4, c5, c6, c7, d8, d9] t (0, 0)) := set_heap _ g 7 _ _ _ h6
  have h8 : (((((((((W.setCell ⟨g, 0, none⟩ c0).setCell ⟨g, 1, none⟩ c1).setCell ⟨g, 2, none⟩ c2).setCell ⟨g, 3, none⟩ c3).setCell ⟨g, 4, none⟩ c4).setCell ⟨g, 5, none⟩ c5).setCell ⟨g, 6, none⟩ c6).setCell ⟨g, 7, none⟩ c7).setCell ⟨g, 8, none⟩ c8).heap[g]? = some (.cells #[c0, c1, c2, c3, c4, c5, c6, c7, c8, d9] t (0, 0)) := set_heap _ g 8 _ _ _ h7
  have h9 : ((((((((((W.setCell ⟨g, 0, none⟩ c0).setCell ⟨g, 1, none⟩ c1).setCell ⟨g, 2, none⟩ c2).setCell ⟨g, 3, none⟩ c3).setCell ⟨g, 4, none⟩ c4).setCell ⟨g, 5, none⟩ c5).setCell ⟨g, 6, none⟩ c6).setCell ⟨g, 7, none⟩ c7).setCell ⟨g, 8, none⟩ c8).setCell ⟨g, 9, none⟩ c9).heap[g]? = some (.cells #[c0, c1, c2, c3, c4, c5, c6, c7, c8, c9] t (0, 0)) := set_heap _ g 9 _ _ _ h8
  exact h9
/-- what the reference's New answers -/
def RNewG (a : Ans) (w w' : World) (e : Ending) : Prop :=
  ∃ vo vc nx, e = .returned (.tuple #[wldA a.tab.1 (.slice vo a.tab.2.length vc) nx, .int .i64 a.err, .int .i64 a.at']) ∧ w'.ownsRow w.heap.size 70 4 (.slice vo a.tab.2.length vc) a.tab.2.length (flatP a.tab.2) ∧ Below w.heap.size w w' ∧ (a.err = 0 → nx = 1)

set_option maxRecDepth 20000 in
set_option maxHeartbeats 2000000 in
theorem rnew_any (s : ByteArray) (w : World) (hs : s.size ≤ maxLen) :
    Calls Tryz.prog 10 #[.string s] w fun e w' => RNewG (ans s) w w' e := by
  have HC := hideIt (rcompile_any s (w.alloc (bWld 0 (.slice none 0 0) 0)) hs)
  have HBAD := hideIt (ans_bad s)
  have HOK := hideIt (ans_ok s)
  obtain ⟨⟨⟨b, ps⟩, er, pl⟩, ha⟩ : ∃ a, ans s = a := ⟨_, rfl⟩
  rw [ha] at HC HBAD HOK ⊢
  simp only at HBAD HOK
  unfold maxLen at hs
  clear ha
  go_enter Tryz.func10, Tryz.ntmps10
  go_wp2_with fail
  refine HC.out.mono ?_
  rintro e w1 ⟨vo, vc, rfl, hown, hb1⟩
  simp only at hown ⊢
  obtain ⟨m, hm⟩ : ∃ m, ps.length = m := ⟨_, rfl⟩
  rw [hm] at hown ⊢
  have hz : w1.heap[w.heap.size]? = some (bWld 0 (.slice none 0 0) 0) := (hb1.block _ (by simp)).trans (heap_alloc_at _ _ rfl)
  have hlt : w.heap.size < w1.heap.size := sz_lt hb1
  have K1 : Hid (w1.ownsRow (w.heap.size + 1) 70 4 (.slice vo m vc) m (flatP ps) ∧ Below w.heap.size w w1 ∧ ps.length = m) := ⟨by simpa using hown, nx_trans (nx_alloc _ _) hb1, hm⟩
  obtain ⟨y0, y1, y2, y3, y4, y5, y6, y7, y8, y9, yz⟩ := blk10d hz
  by_cases her : er = 0
  · have hpl : pl = 0 := HOK.out her
    subst her hpl
    obtain ⟨FW, hFW⟩ : ∃ FW, FW = (set10 w1 w.heap.size (.int .i64 b) (.slice vo m vc) (.slice none 0 0) (.slice none 0 0) (.slice none 0 0) (.bool false) (.bool false) (.int .i64 1) (.int .i64 0) (.slice none 0 0)).alloc (bTab b (.slice vo m vc)) := ⟨_, rfl⟩
    have hFz : FW.heap[w.heap.size]? = some (bWld b (.slice vo m vc) 1) := by
      rw [hFW]
      exact (heap_alloc_lt _ _ (by simpa using hlt)).trans (set10_self w1 _ _ _ _ _ _ _ _ _ _ _ _ _ _ _ _ _ _ _ _ _ _ hz)
    have KF : Hid (FW = (set10 w1 w.heap.size (.int .i64 b) (.slice vo m vc) (.slice none 0 0) (.slice none 0 0) (.slice none 0 0) (.bool false) (.bool false) (.int .i64 1) (.int .i64 0) (.slice none 0 0)).alloc (bTab b (.slice vo m vc)) ∧ Below w.heap.size w FW) := by
      refine ⟨hFW, ?_⟩
      rw [hFW]
      exact (set10_below K1.out.2.1 _ (Nat.le_refl _) _ _ _ _ _ _ _ _ _ _).alloc (by simpa using Nat.le_of_lt hlt) _
    obtain ⟨z0, z1, z2, z3, z4, z5, z6, z7, z8, z9, zz⟩ := blk10d hFz
    clear hown hb1 hm HC hz hFW hFz
    go_wp2_with fail
    rw [← KF.out.1]
    clear y0 y1 y2 y3 y4 y5 y6 y7 y8 y9 yz
    refine bodyPost_ret (v := .tuple #[wldA b (.slice vo m vc) 1, .int .i64 0, .int .i64 0]) (by simp [results, Tryz.results10, go_sem, z0, z1, z2, z3, z4, z5, z6, z7, z8, z9]) rfl ?_
    refine ⟨vo, vc, 1, ?_, ?_, KF.out.2, fun _ => rfl⟩
    · simp only [K1.out.2.2]; rfl
    · simp only [K1.out.2.2]
      rw [KF.out.1]
      exact own_mono ((ownG_heap K1.out.1 (fun j hj => set10_heap _ _ _ _ _ _ _ _ _ _ _ _ j (by have := (K1.out.1.lt j hj).1; omega))).alloc _) (by omega)
  · have herb : ((er : Int) != 0) = true := by rw [bne_iff_ne]; omega
    have HER := hideIt her
    obtain ⟨rfl, rfl⟩ : b = 0 ∧ ps = [] := by have := HBAD.out her; simpa using this
    have hm0 : m = 0 := by rw [← hm]; rfl
    subst hm0
    obtain ⟨FW, hFW⟩ : ∃ FW, FW = (set10 w1 w.heap.size (.int .i64 0) (.slice none 0 0) (.slice none 0 0) (.slice none 0 0) (.slice none 0 0) (.bool false) (.bool false) (.int .i64 0) (.int .i64 0) (.slice none 0 0)).alloc (bTab 0 (.slice vo 0 vc)) := ⟨_, rfl⟩
    have hFz : FW.heap[w.heap.size]? = some (bWld 0 (.slice none 0 0) 0) := by
      rw [hFW]
      exact (heap_alloc_lt _ _ (by simpa using hlt)).trans (set10_self w1 _ _ _ _ _ _ _ _ _ _ _ _ _ _ _ _ _ _ _ _ _ _ hz)
    have KF : Hid (FW = (set10 w1 w.heap.size (.int .i64 0) (.slice none 0 0) (.slice none 0 0) (.slice none 0 0) (.slice none 0 0) (.bool false) (.bool false) (.int .i64 0) (.int .i64 0) (.slice none 0 0)).alloc (bTab 0 (.slice vo 0 vc)) ∧ Below w.heap.size w FW) := by
      refine ⟨hFW, ?_⟩
      rw [hFW]
      exact (set10_below K1.out.2.1 _ (Nat.le_refl _) _ _ _ _ _ _ _ _ _ _).alloc (by simpa using Nat.le_of_lt hlt) _
    obtain ⟨z0, z1, z2, z3, z4, z5, z6, z7, z8, z9, zz⟩ := blk10d hFz
    clear hown hb1 HC hz her hm hFW hFz
    go_wp2_with fail
    rw [← KF.out.1]
    clear y0 y1 y2 y3 y4 y5 y6 y7 y8 y9 yz
    refine bodyPost_ret (v := .tuple #[wldA 0 (.slice none 0 0) 0, .int .i64 er, .int .i64 pl]) (by simp [results, Tryz.results10, go_sem, z0, z1, z2, z3, z4, z5, z6, z7, z8, z9]) rfl ?_
    exact ⟨none, 0, 0, rfl, World.ownsRow_nil _ _ _ _, KF.out.2, fun h => absurd h HER.out⟩
end Lw
end Go.Proofs.YtmmmjpkhnbfnbaaGreat
namespace Go.Proofs.YtmmmjpkhnbfnbaaGreat
open Go.RowKit
namespace Lw
open Co

abbrev bPair (p : Value) (b : Int) (v1 v2 v3 v4 : Value) (x y : Bool) (nx hb : Int) (hv : Value) : Obj := .cells #[p, .int .i64 b, v1, v2, v3, v4, .bool x, .bool y, .int .i64 nx, .int .i64 hb, hv] 40
/-- what begun answers -/
def BegG (a : Ans) (w w' : World) (e : Ending) : Prop :=
  ∃ gx, e = .returned (.tuple #[.pointer (some ⟨gx, 0, none⟩), .bool true]) ∧ w.heap.size ≤ gx ∧ Below w.heap.size w w' ∧
    ((a.err ≠ 0 ∧ ∃ b v1 nx, w'.heap[gx]? = some (bPair (.pointer none) b v1 (.slice none 0 0) (.slice none 0 0) (.slice none 0 0) false false nx 0 (.slice none 0 0))) ∨
     (a.err = 0 ∧ ∃ gp F vo vc nx, w'.heap[gx]? = some (bPair (.pointer (some ⟨gp, 0, none⟩)) a.tab.1 (.slice vo a.tab.2.length vc) (.slice none 0 0) (.slice none 0 0) (.slice none 0 0) false false nx 0 (.slice none 0 0)) ∧
       DeskAt w' gp (staNew a) ⟨0, 0, []⟩ F ∧ (∀ y, F y → w.heap.size ≤ y) ∧ ¬ F gx ∧ w'.ownsRow 0 70 4 (.slice vo a.tab.2.length vc) a.tab.2.length (flatP a.tab.2) ∧ (∀ g, (Value.slice vo a.tab.2.length vc).ownBlock = some g → ¬ F g ∧ w.heap.size ≤ g) ∧ nx = 1))

set_option maxRecDepth 20000 in
set_option maxHeartbeats 2000000 in
theorem begun_any (s : ByteArray) (w : World) (hs : s.size ≤ maxLen) :
    Calls Tryz.prog 5 #[.string s] w fun e w' => BegG (ans s) w w' e := by
  have HN := hideIt (new_any s w hs)
  have HR := hideIt (fun w1 => rnew_any s w1 hs)
  have HOK := hideIt (ans_ok s)
  obtain ⟨⟨⟨b, ps⟩, er, pl⟩, ha⟩ : ∃ a, ans s = a := ⟨_, rfl⟩
  rw [ha] at HN HR HOK ⊢
  simp only at HOK
  unfold maxLen at hs
  clear ha
  go_enter Tryz.func5, Tryz.ntmps5
  go_wp2_with fail
  refine HN.out.mono ?_
  rintro e w1 (⟨her, rfl, hb1⟩ | ⟨her, gp, F, rfl, hd, hF, hb1⟩)
  · simp only at her ⊢
    have HE := hideIt her
    have herb : ((er : Int) != 0) = true := by rw [bne_iff_ne]; omega
    have HB1 := hideIt hb1
    clear her hb1 HN
    go_wp2_with fail
    refine (HR.out w1).mono ?_
    rintro e w2 ⟨vo, vc, nx, rfl, hown, hb2, _⟩
    simp only at hown ⊢
    obtain ⟨m, hm⟩ : ∃ m, ps.length = m := ⟨_, rfl⟩
    rw [hm]
    have hbb := nx_trans HB1.out hb2
    have K : Hid (Below w.heap.size w ((w2.alloc (bWld b (.slice vo m vc) nx)).alloc (bPair (.pointer none) b (.slice vo m vc) (.slice none 0 0) (.slice none 0 0) (.slice none 0 0) false false nx 0 (.slice none 0 0))) ∧ w.heap.size ≤ w2.heap.size) := ⟨(hbb.alloc hbb.size _).alloc (by simp; have := hbb.size; omega) _, hbb.size⟩
    clear hown hb2 hbb hm
    go_wp2_with fail
    go_ret2
    refine ⟨w2.heap.size + 1, rfl, by have := K.out.2; omega, K.out.1, .inl ⟨HE.out, b, .slice vo m vc, nx, ?_⟩⟩
    exact heap_alloc_at _ _ (by simp)
  · simp only at her
    subst her
    have hpl : pl = 0 := HOK.out rfl
    subst hpl
    have HD : Hid (DeskAt w1 gp (staNew ⟨(b, ps), 0, 0⟩) ⟨0, 0, []⟩ F ∧ (∀ y, F y → w.heap.size ≤ y) ∧ Below w.heap.size w w1) := ⟨hd, hF, hb1⟩
    clear hd hF hb1 HN
    go_wp2_with fail
    refine (HR.out w1).mono ?_
    rintro e w2 ⟨vo, vc, nx, rfl, hown, hb2, hnx⟩
    have HNX : Hid (nx = 1) := hnx rfl
    simp only at hown ⊢
    clear hnx
    obtain ⟨m, hm⟩ : ∃ m, ps.length = m := ⟨_, rfl⟩
    rw [hm] at hown ⊢
    have hbb := nx_trans HD.out.2.2 hb2
    have hbf : Below w2.heap.size w2 ((w2.alloc (bWld b (.slice vo m vc) nx)).alloc (bPair (.pointer (some ⟨gp, 0, none⟩)) b (.slice vo m vc) (.slice none 0 0) (.slice none 0 0) (.slice none 0 0) false false nx 0 (.slice none 0 0))) := nx_trans (nx_alloc _ _) (nx_alloc _ _)
    have K : Hid (Below w.heap.size w ((w2.alloc (bWld b (.slice vo m vc) nx)).alloc (bPair (.pointer (some ⟨gp, 0, none⟩)) b (.slice vo m vc) (.slice none 0 0) (.slice none 0 0) (.slice none 0 0) false false nx 0 (.slice none 0 0))) ∧ w.heap.size ≤ w2.heap.size ∧ ps.length = m ∧
        DeskAt ((w2.alloc (bWld b (.slice vo m vc) nx)).alloc (bPair (.pointer (some ⟨gp, 0, none⟩)) b (.slice vo m vc) (.slice none 0 0) (.slice none 0 0) (.slice none 0 0) false false nx 0 (.slice none 0 0))) gp (staNew ⟨(b, ps), 0, 0⟩) ⟨0, 0, []⟩ F ∧ (∀ y, F y → y < w2.heap.size) ∧
        ((w2.alloc (bWld b (.slice vo m vc) nx)).alloc (bPair (.pointer (some ⟨gp, 0, none⟩)) b (.slice vo m vc) (.slice none 0 0) (.slice none 0 0) (.slice none 0 0) false false nx 0 (.slice none 0 0))).ownsRow 0 70 4 (.slice vo m vc) m (flatP ps) ∧ (∀ g, (Value.slice vo m vc).ownBlock = some g → ¬ F g ∧ w.heap.size ≤ g)) := by
      refine ⟨nx_trans hbb hbf, hbb.size, hm, HD.out.1.keep (G := fun _ => False) (Chg.of_below (nx_trans hb2 hbf)) (fun _ _ h => h), fun y hy => Nat.lt_of_lt_of_le (HD.out.1.lt y hy) hb2.size, own_mono (own_below hown hbf) (Nat.zero_le _), fun g hg => ?_⟩
      have h1 := (hown.lt g hg).1
      refine ⟨fun h => ?_, Nat.le_trans HD.out.2.2.size h1⟩
      have := HD.out.1.lt g h
      omega
    clear hown hb2 hbb hm hbf
    go_wp2_with fail
    go_ret2
    refine ⟨w2.heap.size + 1, rfl, by have := K.out.2.1; omega, K.out.1, .inr ⟨rfl, gp, F, vo, vc, nx, ?_, K.out.2.2.2.1, HD.out.2.1, fun h => ?_, ?_, ?_, HNX.out⟩⟩
    · simp only [K.out.2.2.1]; exact heap_alloc_at _ _ (by simp)
    · have := K.out.2.2.2.2.1 _ h; omega
    · simp only [K.out.2.2.1]; exact K.out.2.2.2.2.2.1
    · simp only [K.out.2.2.1]; exact K.out.2.2.2.2.2.2
end Lw
end Go.Proofs.YtmmmjpkhnbfnbaaGreat
