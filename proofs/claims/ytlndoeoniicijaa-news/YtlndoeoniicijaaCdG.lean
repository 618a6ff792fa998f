
import Derived.Test.YtlndoeoniicijaaCdF
namespace Go.Proofs.Ytlndoeoniicijaa
open Go.RowKit
namespace Lw
open Co

theorem rows_none (ty tyl : TypeId) (sz : Nat) (mk : Int → List Value) (w : World) (F : Nat → Prop) : RowsG ty tyl sz mk w F (.slice none 0 0) 0 :=
  ⟨[], World.ownsRow_nil _ _ _ _, fun g hg => by simp [Value.ownBlock] at hg, fun i x hx => by simp at hx⟩
theorem own_new {w : World} {go : Nat} (h : w.heap[go]? = some (bOw (.slice none 0 0) (.slice none 0 0) (.slice none 0 0) (.slice none 0 0))) : OwnAt w go (fun y => y = go) 0 0 0 0 :=
  ⟨⟨_, _, _, _, h, rows_none _ _ _ _ _ _, rows_none _ _ _ _ _ _, rows_none _ _ _ _ _ _, rows_none _ _ _ _ _ _⟩, rfl, fun x hx => by rw [hx]; exact (Array.getElem?_eq_some_iff.1 h).1⟩

set_option maxRecDepth 20000 in
set_option maxHeartbeats 2000000 in
theorem news_any (s : ByteArray) (w : World) (hs : s.size ≤ maxLen) :
    Calls Try.prog 3 #[.string s] w fun e w' => e = .returned (.bool true) ∧ Below w.heap.size w w' := by
  have HB := hideIt (begun_any s w hs)
  have HL := hideIt (ans_len s)
  unfold maxLen at hs
  go_enter Try.func3, Try.ntmps3
  go_wp2_with fail
  refine HB.out.mono ?_
  rintro e w1 ⟨gx, rfl, hgx, hb1, ⟨her, b, v1, nx, hp⟩ | ⟨her, gp, F, vo, vc, nx, hp, hd, hF, hnx, hown, hno⟩⟩
  · obtain ⟨x0, x1, x2, x3, x4, x5, x6, x7⟩ := blk11 hp
    have K := hideIt hb1
    clear hp hb1 HB her
    go_wp2_with fail
    go_ret
    exact ⟨rfl, K.out⟩
  · obtain ⟨x0, x1, x2, x3, x4, x5, x6, x7⟩ := blk11 hp
    obtain ⟨W, hW⟩ : ∃ W, W = w1.alloc (bOw (.slice none 0 0) (.slice none 0 0) (.slice none 0 0) (.slice none 0 0)) := ⟨_, rfl⟩
    have hbW : Below w1.heap.size w1 W := by rw [hW]; exact nx_alloc _ _
    have hgo : W.heap[w1.heap.size]? = some (bOw (.slice none 0 0) (.slice none 0 0) (.slice none 0 0) (.slice none 0 0)) := by rw [hW]; exact heap_alloc_at _ _ rfl
    have hxlt : gx < w1.heap.size := (Array.getElem?_eq_some_iff.1 hp).1
    have hownW := own_below hown hbW
    have hblk : ∀ g, Blk (staNew (ans s)) ⟨vo, vc, none, 0, none, 0, none, 0⟩ g → g < w1.heap.size := by
      rintro g (hg | hg | hg | hg)
      · exact (hown.lt g hg).2
      · simp [Value.ownBlock] at hg
      · simp [Value.ownBlock] at hg
      · simp [Value.ownBlock] at hg
    have hseen : Seen W gx gp w1.heap.size (staNew (ans s)) ⟨0, 0, []⟩ F (fun y => y = w1.heap.size) ⟨vo, vc, none, 0, none, 0, none, 0⟩ 0 0 0 := by
      refine ⟨⟨nx, 0, .slice none 0 0, (hbW.block gx hxlt).trans hp⟩, hd.keep (G := fun _ => False) (Chg.of_below hbW) (fun _ _ h => h), ⟨own_row hownW, row_nil _ _ _, row_nil _ _ _, row_nil _ _ _⟩, fun g hg => Nat.lt_of_lt_of_le (hblk g hg) hbW.size, own_new hgo, by omega, fun y hy h => ?_, fun g hg h => ?_⟩
      · have := hd.lt y hy; omega
      · have := hblk g hg; omega
    have hl := HL.out
    have HK := hideIt (looked_any gx gp w1.heap.size (staNew (ans s)) ⟨0, 0, []⟩ F (fun y => y = w1.heap.size) ⟨vo, vc, none, 0, none, 0, none, 0⟩ 0 0 0 W hseen ⟨by show (ans s).tab.2.length ≤ _; unfold maxLen; omega, Nat.zero_le _, Nat.zero_le _, Nat.zero_le _⟩ ⟨by show (ans s).tab.2.length ≤ _; omega, Nat.zero_le _, Nat.zero_le _, Nat.zero_le _⟩ ⟨by omega, by omega, by omega⟩)
    rw [hW] at HK
    have KW : Hid (W = w1.alloc (bOw (.slice none 0 0) (.slice none 0 0) (.slice none 0 0) (.slice none 0 0)) ∧ Below w.heap.size w W ∧ w.heap.size ≤ w1.heap.size) := ⟨hW, nx_trans hb1 hbW, hb1.size⟩
    clear hp hd hF hnx hown hno hbW hgo hownW hblk hseen hl hW HB her hb1
    go_wp2_with fail
    refine HK.out.mono ?_
    rintro e w2 ⟨rfl, F2, _, _, hc⟩
    rw [← KW.out.1] at hc
    have KF : Hid (Below w.heap.size w w2) := KW.out.2.1.trans (hc.below KW.out.2.1.size (fun x hx => by rw [hx]; exact KW.out.2.2))
    clear hc
    go_wp2_with fail
    go_ret
    exact ⟨rfl, KF.out⟩
end Lw
end Go.Proofs.Ytlndoeoniicijaa
