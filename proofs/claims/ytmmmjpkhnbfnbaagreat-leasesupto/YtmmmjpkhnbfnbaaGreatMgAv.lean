import Derived.Test.YtmmmjpkhnbfnbaaGreatMgAu
import Derived.Test.YtmmmjpkhnbfnbaaGreatMgAr
namespace Go.Proofs.YtmmmjpkhnbfnbaaGreat
open Go.RowKit
namespace Lw
open Co

/-- a step of a script -/
structure Opr where
  k : Int
  a : Int
  b : Int
  s : ByteArray
def fOp (x : Opr) : List Value := [.int .i64 x.k, .int .i64 x.a, .int .i64 x.b, .string x.s]
def flatO (l : List Opr) : List Value := l.flatMap fOp
theorem op_at {w : World} {ao : Option Addr} {n m cap : Nat} {l : List Opr} (h : RowAt w (.slice ao n cap) m (flatO l)) {i : Nat} {x : Opr} (hi : l[i]? = some x) :
    ∃ b off, ao = some ⟨b, off, none⟩ ∧ b < w.heap.size ∧ w.cell? ⟨b, off + i * 4, none⟩ = some (.int .i64 x.k) ∧ w.cell? ⟨b, off + i * 4 + 1, none⟩ = some (.int .i64 x.a) ∧ w.cell? ⟨b, off + i * 4 + 2, none⟩ = some (.int .i64 x.b) ∧ w.cell? ⟨b, off + i * 4 + 3, none⟩ = some (.string x.s) := by
  obtain ⟨b, off, e, hb, g⟩ := row_get (f := fOp) (k := 4) (fun _ => rfl) h hi (by omega)
  exact ⟨b, off, e, hb, g 0 _ rfl, g 1 _ rfl, g 2 _ rfl, g 3 _ rfl⟩
/-- what holds all the while behind k steps -/
structure Plays (B : Nat) (w : World) (gx gp go : Nat) (S : Sta) (X : Aux) (Fp F : Nat → Prop) (u : Stv) (ho : Option Addr) (hc q1 q2 q4 : Nat) (k : Nat) : Prop where
  run : Run w gx gp go S X S (X.op + 1) (0, []) Fp F u ho hc q1 q2 q4
  inv : Inv S X.op
  still : Still S X.op
  pot : pot (S, X.op) ≤ k
  pools : S.pools.length ≤ 1001
  plan : S.plan = []
  q : q1 ≤ 2 * k ∧ q2 ≤ 2 * k ∧ q4 ≤ 2 * k
  fp : ∀ y, Fp y → B ≤ y
  f : ∀ y, F y → B ≤ y
  x : B ≤ gx
theorem Plays.num {B : Nat} {w : World} {gx gp go : Nat} {S : Sta} {X : Aux} {Fp F : Nat → Prop} {u : Stv} {ho : Option Addr} {hc q1 q2 q4 k : Nat} (h : Plays B w gx gp go S X Fp F u ho hc q1 q2 q4 k) (hk : k ≤ 1073741824) : RefOk S X.op (0, []) ∧ Small S ∧ Fits S := by
  have h1 := h.inv.len
  have h2 := h.inv.op0
  have h3 := h.pot
  have h4 := h.pools
  have h5 : S.plan.length = 0 := by rw [h.plan]; rfl
  have h6 := h.pot
  unfold Lw.pot at h3
  simp only at h3
  refine ⟨⟨⟨h.inv, by omega, by omega⟩, by omega, by omega, by omega, by simp⟩, ⟨?_, ?_, ?_, ?_⟩, ⟨?_, ?_, ?_, ?_⟩⟩ <;> (try unfold maxLen) <;> omega

set_option maxRecDepth 20000 in
set_option maxHeartbeats 8000000 in
theorem plays_lease (s : ByteArray) (os : List Opr) (ao : Option Addr) (n ac : Nat) (w : World) (hr : RowAt w (.slice ao n ac) n (flatO os)) (hn : os.length = n) (hs : s.size ≤ maxLen) (hq : n ≤ 1073741823) :
    Calls Tryz.prog 4 #[.string s, .slice ao n ac, .int .i64 4] w fun e w' => e = .returned (.bool true) ∧ Below w.heap.size w w' := by
  have HB := hideIt (begun_any s w hs)
  have HL := hideIt (ans_len s)
  have HR : Hid (RowAt w (.slice ao n ac) n (flatO os) ∧ os.length = n) := ⟨hr, hn⟩
  unfold maxLen at hs
  clear hr hn
  go_enter Tryz.func4, Tryz.ntmps4
  go_wp2_with fail
  refine HB.out.mono ?_
  rintro e w1 ⟨gx, rfl, hgx, hb1, ⟨her, b, v1, nx, hp⟩ | ⟨her, gp, F, vo, vc, nx, hp, hd, hF, hnx, hown, hno, hn1⟩⟩
  · obtain ⟨x0, x1, x2, x3, x4, x5, x6, x7⟩ := blk11 hp
    have K := hideIt hb1
    clear hp hb1 HB her
    go_wp2_with fail
    go_ret
    exact ⟨rfl, K.out⟩
  · subst hn1
    obtain ⟨x0, x1, x2, x3, x4, x5, x6, x7⟩ := blk11 hp
    obtain ⟨W, hW⟩ : ∃ W, W = w1.alloc (bOw (.slice none 0 0) (.slice none 0 0) (.slice none 0 0) (.slice none 0 0)) := ⟨_, rfl⟩
    have hbW : Below w1.heap.size w1 W := by rw [hW]; exact nx_alloc _ _
    have hgo : W.heap[w1.heap.size]? = some (bOw (.slice none 0 0) (.slice none 0 0) (.slice none 0 0) (.slice none 0 0)) := by rw [hW]; exact heap_alloc_at _ _ rfl
    have hxlt : gx < w1.heap.size := (Array.getElem?_eq_some_iff.1 hp).1
    have hownW := own_below hown hbW
    have hblk : ∀ g, Blkh (staNew (ans s)) ⟨vo, vc, none, 0, none, 0, none, 0⟩ (0, []) none 0 g → (Value.slice vo (ans s).tab.2.length vc).ownBlock = some g := by
      rintro g ((hg | hg | hg | hg) | hg)
      · exact hg
      · simp [Value.ownBlock] at hg
      · simp [Value.ownBlock] at hg
      · simp [Value.ownBlock] at hg
      · simp [Value.ownBlock] at hg
    have hrun : Run W gx gp w1.heap.size (staNew (ans s)) ⟨0, 0, []⟩ (staNew (ans s)) (0 + 1) (0, []) F (fun y => y = w1.heap.size) ⟨vo, vc, none, 0, none, 0, none, 0⟩ none 0 0 0 0 := by
      refine ⟨(hbW.block gx hxlt).trans hp, hd.keep (G := fun _ => False) (Chg.of_below hbW) (fun _ _ h => h), ⟨⟨own_row hownW, row_nil _ _ _, row_nil _ _ _, row_nil _ _ _⟩, row_nil _ _ _, fun g hg => (hownW.lt g (hblk g hg)).2⟩, own_new hgo, by omega, hnx, fun y hy h => ?_, fun g hg h => ?_, fun g hg => (hno g (hblk g hg)).1, fun g hg e => ?_⟩
      · have := hd.lt y hy; omega
      · have := (hown.lt g (hblk g hg)).2; omega
      · exact own_boxD hown hp (by decide) (by rw [← e]; exact hblk g hg)
    have hbb := nx_trans hb1 hbW
    have HPL : Hid (Plays w.heap.size W gx gp w1.heap.size (staNew (ans s)) ⟨0, 0, []⟩ F (fun y => y = w1.heap.size) ⟨vo, vc, none, 0, none, 0, none, 0⟩ none 0 0 0 0 0 ∧ Below w.heap.size w W) := by
      refine ⟨⟨hrun, ⟨List.Pairwise.nil, fun x hx => by simp at hx, Int.le_refl _, List.Pairwise.nil⟩, rfl, ?_, ?_, rfl, ⟨Nat.le_refl _, Nat.le_refl _, Nat.le_refl _⟩, hF, fun y hy => by rw [hy]; exact hb1.size, hgx⟩, hbb⟩
      · unfold Lw.pot; simp
      · exact HL.out
    have KW : Hid (W = w1.alloc (bOw (.slice none 0 0) (.slice none 0 0) (.slice none 0 0) (.slice none 0 0))) := hW
    obtain ⟨go, hgoe⟩ : ∃ go, w1.heap.size = go := ⟨_, rfl⟩
    rw [hgoe] at HPL
    have HGO := hideIt hgoe
    clear hp hd hF hnx hown hno hbW hgo hownW hblk hrun hW HB her hb1 hbb hxlt hgx hgoe
    go_upto_region 5 with fail
    rw [← KW.out, HGO.out]
    clear x0 x1 x2 x3 x4 x5 x6 x7
    go_wp2_with fail
    go_loopw [8, 10, 11] (fun ok i kk wr => ∃ (k : Nat), k ≤ n ∧ i = .int .i64 k ∧ ok = .bool true ∧ Hid (∃ S X Fp F u ho hc q1 q2 q4, Plays w.heap.size wr gx gp go S X Fp F u ho hc q1 q2 q4 k ∧ Below w.heap.size w wr)) (fun _ i _ _ => n - (intOf i).toNat)
    case atStart => exact ⟨0, Nat.zero_le _, rfl, rfl, _, _, _, _, _, _, _, _, _, _, HPL.out⟩
    case round =>
      obtain ⟨k, hk, rfl, rfl, HS⟩ := hrel
      obtain ⟨S, X, Fp, F, u, ho, hc, q1, q2, q4, hpl, hbw⟩ := HS.out
      obtain ⟨hrok, hsm, hfit⟩ := hpl.num (by omega)
      have hq' := hpl.q
      have hqq : q1 ≤ 1099511627770 ∧ q2 ≤ 1099511627770 ∧ q4 ≤ 1099511627770 := by omega
      have HP := hideIt hpl
      have HBW := hideIt hbw
      have HLK := hideIt (looked_any gx gp go S X Fp F u q1 q2 q4 wr hpl.run.seen hsm hfit hqq)
      have HQ := hideIt (And.intro hqq hq')
      by_cases hlt : k < n
      · have hlti : (k : Int) < (n : Int) := by omega
        obtain ⟨⟨kd, A, B, t⟩, hp⟩ : ∃ p, os[k]? = some p := ⟨_, List.getElem?_eq_getElem (by rw [HR.out.2]; exact hlt)⟩
        obtain ⟨bl, off, hao, hbl, c0, c1, c2, c3⟩ := op_at (HR.out.1.nx hbw) hp
        subst hao
        simp only at c0 c1 c2 c3
        clear hp hpl hbw hsm hfit hqq hq'
        cases h8 : (kd == 8) with
        | true =>
          clear hrok
          go_wp2_with fail
          refine HLK.out.mono ?_
          rintro e w2 ⟨rfl, F2, hown2, hF2, hch⟩
          have HK := hideIt (okept_own go F2 (q1 + 2) (q2 + 2) (q4 + 2) w2 hown2 (by have := HQ.out.1; omega))
          have HN : Hid (∃ S X Fp F u ho hc q1 q2 q4, Plays w.heap.size w2 gx gp go S X Fp F u ho hc q1 q2 q4 (k + 1) ∧ Below w.heap.size w w2) := by
            have h := HP.out
            have hq2 := HQ.out.2
            refine ⟨S, X, Fp, F2, u, ho, hc, q1 + 2, q2 + 2, q4 + 2, ⟨h.run.looked hch hown2 hF2, h.inv, h.still, by have := h.pot; omega, h.pools, h.plan, by omega, h.fp, fun y hy => ?_, h.x⟩, HBW.out.trans (hch.below HBW.out.size h.f)⟩
            rcases hF2 y hy with hy | hy
            · exact h.f y hy
            · exact Nat.le_trans HBW.out.size hy
          clear hown2 hF2 hch c0 c1 c2 c3
          go_wp2_with fail
          refine HK.out.mono ?_
          rintro e w3 ⟨rfl, h3⟩
          obtain rfl := h3.symm
          go_wp2_with fail
          go_roundw
          case rel => exact ⟨k + 1, by omega, by go_num, rfl, HN.out⟩
          case measure => simp [intOf]; omega
        | false =>
          cases h4 : decide (kd ≤ 4) with
          | true =>
            have HPY := hideIt (play_lease gx gp go S X (0, []) Fp F u ho hc q1 q2 q4 wr kd A B t HP.out.run hrok HP.out.still (of_decide_eq_true h4))
            clear hrok
            go_wp2_with fail
            refine HPY.out.mono ?_
            rintro e w2 ⟨rfl, D, X', Fp', u', ho', hc', hrun, hFp, hch, hinv, hstill, hpot, hrest⟩
            have HK := hideIt (okept_own go F q1 q2 q4 w2 hrun.own (by have := HQ.out.1; omega))
            have HN : Hid (∃ S X Fp F u ho hc q1 q2 q4, Plays w.heap.size w2 gx gp go S X Fp F u ho hc q1 q2 q4 (k + 1) ∧ Below w.heap.size w w2) := by
              have h := HP.out
              have hq2 := HQ.out.2
              refine ⟨D, X', Fp', F, u', ho', hc', q1, q2, q4, ⟨hrun, hinv, hstill, by have := h.pot; omega, by rw [hrest.1]; exact h.pools, by rw [hrest.2.2.1]; exact h.plan, by omega, fun y hy => ?_, h.f, h.x⟩, HBW.out.trans (hch.below HBW.out.size (fun y hy => ?_))⟩
              · rcases hFp y hy with hy | hy
                · exact h.fp y hy
                · exact Nat.le_trans HBW.out.size hy
              · rcases hy with hy | hy
                · exact h.fp y hy
                · rw [hy]; exact h.x
            clear hrun hFp hch hinv hstill hpot hrest c0 c1 c2 c3
            go_wp2_with fail
            refine HK.out.mono ?_
            rintro e w3 ⟨rfl, h3⟩
            obtain rfl := h3.symm
            go_wp2_with fail
            go_roundw
            case rel => exact ⟨k + 1, by omega, by go_num, rfl, HN.out⟩
            case measure => simp [intOf]; omega
          | false =>
            have HK := hideIt (okept_own go F q1 q2 q4 wr HP.out.run.own (by have := HQ.out.1; omega))
            have HN : Hid (∃ S X Fp F u ho hc q1 q2 q4, Plays w.heap.size wr gx gp go S X Fp F u ho hc q1 q2 q4 (k + 1) ∧ Below w.heap.size w wr) := by
              have h := HP.out
              have hq2 := HQ.out.2
              exact ⟨S, X, Fp, F, u, ho, hc, q1, q2, q4, ⟨h.run, h.inv, h.still, by have := h.pot; omega, h.pools, h.plan, by omega, h.fp, h.f, h.x⟩, HBW.out⟩
            clear hrok
            go_wp2_with fail
            refine HK.out.mono ?_
            rintro e w3 ⟨rfl, h3⟩
            obtain rfl := h3.symm
            go_wp2_with fail
            go_roundw
            case rel => exact ⟨k + 1, by omega, by go_num, rfl, HN.out⟩
            case measure => simp [intOf]; omega
      · clear hpl hbw hsm hfit hqq hq' hrok
        go_wp2_with fail
        refine HLK.out.mono ?_
        rintro e w2 ⟨rfl, F2, hown2, hF2, hch⟩
        have KF : Hid (Below w.heap.size w w2) := HBW.out.trans (hch.below HBW.out.size HP.out.f)
        clear hown2 hF2 hch
        go_wp2_with fail
        go_ret
        exact ⟨rfl, KF.out⟩
theorem leases_any (s : ByteArray) (os : List Opr) (ao : Option Addr) (n ac : Nat) (w : World) (hr : RowAt w (.slice ao n ac) n (flatO os)) (hn : os.length = n) (hs : s.size ≤ maxLen) (hq : n ≤ 1073741823) :
    Calls Tryz.prog 3 #[.string s, .slice ao n ac] w fun e w' => e = .returned (.bool true) ∧ Below w.heap.size w w' := by
  have HP := hideIt (plays_lease s os ao n ac w hr hn hs hq)
  clear hr hn hs hq
  go_enter Tryz.func3, Tryz.ntmps3
  go_wp2_with fail
  refine HP.out.mono ?_
  rintro e w1 ⟨rfl, hb⟩
  have KF := hideIt hb
  clear hb
  go_wp2_with fail
  go_ret
  exact ⟨rfl, KF.out⟩
end Lw
end Go.Proofs.YtmmmjpkhnbfnbaaGreat
