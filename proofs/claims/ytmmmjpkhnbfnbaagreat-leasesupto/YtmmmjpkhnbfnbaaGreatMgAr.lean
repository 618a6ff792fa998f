import Derived.Test.YtmmmjpkhnbfnbaaGreatMgAq
import Derived.Test.YtmmmjpkhnbfnbaaGreatMgAo
import Derived.Test.YtmmmjpkhnbfnbaaGreatMgAp
import Derived.Deep.RegionWith
import Derived.Deep.DeepCutAuto
namespace Go.Proofs.YtmmmjpkhnbfnbaaGreat
open Go.RowKit
namespace Lw
open Co

theorem blk11 {w : World} {g : Nat} {c0 c1 c2 c3 c4 c5 c6 c7 c8 c9 c10 : Value} {t : TypeId} (h : w.heap[g]? = some (.cells #[c0, c1, c2, c3, c4, c5, c6, c7, c8, c9, c10] t (0, 0))) :
    w.cell? ⟨g, 0, none⟩ = some c0 ∧ w.cell? ⟨g, 1, none⟩ = some c1 ∧ w.cell? ⟨g, 2, none⟩ = some c2 ∧ w.cell? ⟨g, 3, none⟩ = some c3 ∧ w.cell? ⟨g, 4, none⟩ = some c4 ∧ w.cell? ⟨g, 5, none⟩ = some c5 ∧ w.cell? ⟨g, 6, none⟩ = some c6 ∧ w.cell? ⟨g, 7, none⟩ = some c7 := by
  refine ⟨?_, ?_, ?_, ?_, ?_, ?_, ?_, ?_⟩ <;> simp [World.cell?, h]
theorem row_keep {w w' : World} {v : Value} {n : Nat} {cs : List Value} (h : RowAt w v n cs) (hs : w.heap.size ≤ w'.heap.size) (hh : ∀ g, v.ownBlock = some g → w'.heap[g]? = w.heap[g]?) : RowAt w' v n cs := by
  obtain ⟨ao, cap, rfl, hc, h⟩ := h
  refine ⟨ao, cap, rfl, hc, ?_⟩
  rcases h with h | ⟨b, off, rfl, h2, h3⟩
  · exact .inl h
  · refine .inr ⟨b, off, rfl, Nat.lt_of_lt_of_le h2 hs, fun j x hx => ?_⟩
    rw [World.cell?_of_block (hh b rfl)]
    exact h3 j x hx
/-- the blocks of a state's lists -/
def Blk (S : Sta) (v : Stv) (g : Nat) : Prop := (Value.slice v.po S.pools.length v.pc).ownBlock = some g ∨ (Value.slice v.so S.srv.length v.sc).ownBlock = some g ∨ (Value.slice v.wo S.wts.length v.wc).ownBlock = some g ∨ (Value.slice v.to S.plan.length v.tc).ownBlock = some g
theorem StaAt.keep {w w' : World} {S : Sta} {v : Stv} {G : Nat → Prop} (h : StaAt w S v) (hc : Chg G w w') (hlt : ∀ g, Blk S v g → g < w.heap.size) (hd : ∀ g, Blk S v g → ¬ G g) : StaAt w' S v := by
  have hh : ∀ g, Blk S v g → w'.heap[g]? = w.heap[g]? := fun g hg => hc.block g (hlt g hg) (hd g hg)
  exact ⟨row_keep h.p hc.size (fun g hg => hh g (.inl hg)), row_keep h.s hc.size (fun g hg => hh g (.inr (.inl hg))), row_keep h.t hc.size (fun g hg => hh g (.inr (.inr (.inl hg)))), row_keep h.l hc.size (fun g hg => hh g (.inr (.inr (.inr hg))))⟩
theorem NewSta.at {w w' : World} {S : Sta} {v : Stv} (h : NewSta w w' S v) : StaAt w' S v := ⟨own_row h.p, own_row h.s, own_row h.t, own_row h.l⟩
theorem NewSta.blk {w w' : World} {S : Sta} {v : Stv} (h : NewSta w w' S v) : ∀ g, Blk S v g → w.heap.size ≤ g ∧ g < w'.heap.size := by
  rintro g (hg | hg | hg | hg)
  · exact h.p.lt g hg
  · exact h.s.lt g hg
  · exact h.t.lt g hg
  · exact h.l.lt g hg
theorem NewSta.nx {w w' w2 : World} {S : Sta} {v : Stv} (h : NewSta w w' S v) (hb : Below w'.heap.size w' w2) : NewSta w w2 S v := ⟨own_below h.p hb, own_below h.s hb, own_below h.t hb, own_below h.l hb⟩
/-- what looked needs -/
structure Seen (w : World) (gx gp go : Nat) (S : Sta) (op : Aux) (Fp F : Nat → Prop) (u : Stv) (q1 q2 q4 : Nat) : Prop where
  pr : ∃ nx hb hv, w.heap[gx]? = some (bPair (.pointer (some ⟨gp, 0, none⟩)) S.bud (.slice u.po S.pools.length u.pc) (.slice u.so S.srv.length u.sc) (.slice u.wo S.wts.length u.wc) (.slice u.to S.plan.length u.tc) S.begun S.back nx hb hv)
  desk : DeskAt w gp S op Fp
  ref : StaAt w S u
  rlt : ∀ g, Blk S u g → g < w.heap.size
  own : OwnAt w go F q1 q2 q2 q4
  dx : ¬ F gx
  dp : ∀ y, Fp y → ¬ F y
  dr : ∀ g, Blk S u g → ¬ F g
theorem Seen.next {w w' : World} {gx gp go : Nat} {S : Sta} {op : Aux} {Fp F F' : Nat → Prop} {u : Stv} {q1 q2 q4 r1 r2 r4 : Nat} (h : Seen w gx gp go S op Fp F u q1 q2 q4) (hc : Chg F w w') (ho : OwnAt w' go F' r1 r2 r2 r4) (hF : ∀ y, F' y → F y ∨ w.heap.size ≤ y) : Seen w' gx gp go S op Fp F' u r1 r2 r4 := by
  obtain ⟨nx, hb, hv, hp⟩ := h.pr
  have hxlt : gx < w.heap.size := (Array.getElem?_eq_some_iff.1 hp).1
  refine ⟨⟨nx, hb, hv, (hc.block gx hxlt h.dx).trans hp⟩, h.desk.keep hc h.dp, h.ref.keep hc h.rlt h.dr, fun g hg => Nat.lt_of_lt_of_le (h.rlt g hg) hc.size, ho, fun hh => ?_, fun y hy hh => ?_, fun g hg hh => ?_⟩
  · rcases hF gx hh with hh | hh
    · exact h.dx hh
    · omega
  · rcases hF y hh with hh | hh
    · exact h.dp y hy hh
    · have := h.desk.lt y hy; omega
  · rcases hF g hh with hh | hh
    · exact h.dr g hg hh
    · have := h.rlt g hg; omega
/-- a state is taken over, at a world behind w that has kept F's blocks -/
theorem take_state {w w2 : World} {go : Nat} {S : Sta} {F : Nat → Prop} {v : Stv} {q1 q2 q4 : Nat} (ho : OwnAt w go F q1 q2 q2 q4) (hb : Below w.heap.size w w2) (hq : q1 ≤ 1099511627776 ∧ q2 ≤ 1099511627776 ∧ q4 ≤ 1099511627776) (hn : NewSta w w2 S v) :
    Calls Tryz.prog 13 #[.pointer (some ⟨go, 0, none⟩), staA S v] w2 fun e w' => (∃ x, e = .returned x) ∧ ∃ F', OwnAt w' go F' (q1 + 1) (q2 + 1) (q2 + 1) (q4 + 1) ∧ (∀ y, F' y → F y ∨ w.heap.size ≤ y) ∧ Chg F w w' := by
  have hd : ∀ g, Blk S v g → ¬ F g := fun g hg h => by
    have := ho.lt g h
    have h2 := (hn.blk g hg).1
    omega
  have ho2 : OwnAt w2 go F q1 q2 q2 q4 := ho.keep (G := fun _ => False) (Chg.of_below hb) (fun _ _ h => h)
  refine (ostate_own go F q1 q2 q2 q4 S.bud v.po _ v.pc v.so _ v.sc v.wo _ v.wc v.to _ v.tc S.begun S.back _ _ _ _ w2 ho2 ⟨hq.1, hq.2.1, hq.2.1, hq.2.2⟩ ⟨own_mono hn.p (Nat.zero_le _), fun g hg => hd g (.inl hg)⟩ ⟨own_mono hn.s (Nat.zero_le _), fun g hg => hd g (.inr (.inl hg))⟩ ⟨own_mono hn.t (Nat.zero_le _), fun g hg => hd g (.inr (.inr (.inl hg)))⟩ ⟨own_mono hn.l (Nat.zero_le _), fun g hg => hd g (.inr (.inr (.inr hg)))⟩).mono ?_
  rintro e w' ⟨hx, F', h1, h2, h3⟩
  refine ⟨hx, F', h1, fun y hy => ?_, (Chg.of_below hb).trans h3 (fun y hy => ?_)⟩
  · rcases h2 y hy with h | h | h | h | h | h
    · exact .inl h
    · exact .inr (hn.blk y (.inl h)).1
    · exact .inr (hn.blk y (.inr (.inl h))).1
    · exact .inr (hn.blk y (.inr (.inr (.inl h)))).1
    · exact .inr (hn.blk y (.inr (.inr (.inr h)))).1
    · exact .inr (Nat.le_trans hb.size h)
  · rcases hy with h | h | h | h | h
    · exact .inl h
    · exact .inr (hn.blk y (.inl h)).1
    · exact .inr (hn.blk y (.inr (.inl h))).1
    · exact .inr (hn.blk y (.inr (.inr (.inl h)))).1
    · exact .inr (hn.blk y (.inr (.inr (.inr h)))).1

set_option maxRecDepth 20000 in
set_option maxHeartbeats 4000000 in
theorem looked_flat (gx gp go : Nat) (bud : Int) (ps : List Pl) (ss : List Srv) (ws : List Wtr) (ts : List Stp) (bg bk : Bool) (op : Aux) (Fp F : Nat → Prop) (m1 : Option Addr) (m2 : Nat) (m3 : Option Addr) (m4 : Nat) (m5 : Option Addr) (m6 : Nat) (m7 : Option Addr) (m8 : Nat) (q1 q2 q4 : Nat) (w : World)
    (h : Seen w gx gp go ⟨bud, ps, ss, ws, ts, bg, bk⟩ op Fp F ⟨m1, m2, m3, m4, m5, m6, m7, m8⟩ q1 q2 q4) (hs : Small ⟨bud, ps, ss, ws, ts, bg, bk⟩) (hf : Fits ⟨bud, ps, ss, ws, ts, bg, bk⟩) (hq : q1 ≤ 1099511627770 ∧ q2 ≤ 1099511627770 ∧ q4 ≤ 1099511627770) :
    Calls Tryz.prog 6 #[.pointer (some ⟨gx, 0, none⟩), .pointer (some ⟨go, 0, none⟩)] w fun e w' => e = .returned (.bool true) ∧ ∃ F', OwnAt w' go F' (q1 + 2) (q2 + 2) (q2 + 2) (q4 + 2) ∧ (∀ y, F' y → F y ∨ w.heap.size ≤ y) ∧ Chg F w w' := by
  have HSN := hideIt h
  have HSM := hideIt hs
  have HF := hideIt hf
  obtain ⟨hq1, hq2, hq4⟩ := hq
  obtain ⟨nx, hb, hv, hp⟩ := h.pr
  have hxlt : gx < w.heap.size := (Array.getElem?_eq_some_iff.1 hp).1
  simp only at hp
  obtain ⟨x0, x1, x2, x3, x4, x5, x6, x7⟩ := blk11 hp
  have HP := hideIt hp
  have HSH := hideIt (show_any gp ⟨bud, ps, ss, ws, ts, bg, bk⟩ op Fp w h.desk hf)
  clear h hs hf hp
  go_enter Tryz.func6, Tryz.ntmps6
  go_wp2_with fail
  refine HSH.out.mono ?_
  rintro e w1 ⟨⟨v1, v2, v3, v4, v5, v6, v7, v8⟩, rfl, hn1, hb1⟩
  simp only
  have K1 : Hid (NewSta w w1 ⟨bud, ps, ss, ws, ts, bg, bk⟩ ⟨v1, v2, v3, v4, v5, v6, v7, v8⟩ ∧ Below w.heap.size w w1) := ⟨hn1, hb1⟩
  obtain ⟨W1, hW1⟩ : ∃ W1, W1 = w1.alloc (.cells #[.int .i64 bud, .slice v1 ps.length v2, .slice v3 ss.length v4, .slice v5 ws.length v6, .slice v7 ts.length v8, .bool bg, .bool bk] 36) := ⟨_, rfl⟩
  have hbW : Below w1.heap.size w1 W1 := by rw [hW1]; exact nx_alloc _ _
  have hz1 : W1.heap[w1.heap.size]? = some (.cells #[.int .i64 bud, .slice v1 ps.length v2, .slice v3 ss.length v4, .slice v5 ws.length v6, .slice v7 ts.length v8, .bool bg, .bool bk] 36) := by rw [hW1]; exact heap_alloc_at _ _ rfl
  have hx1 : W1.heap[gx]? = some (bPair (.pointer (some ⟨gp, 0, none⟩)) bud (.slice m1 ps.length m2) (.slice m3 ss.length m4) (.slice m5 ws.length m6) (.slice m7 ts.length m8) bg bk nx hb hv) := ((nx_trans hb1 hbW).block gx hxlt).trans HP.out
  have KW : Hid (W1 = w1.alloc (.cells #[.int .i64 bud, .slice v1 ps.length v2, .slice v3 ss.length v4, .slice v5 ws.length v6, .slice v7 ts.length v8, .bool bg, .bool bk] 36) ∧ Below w.heap.size w W1 ∧ W1.heap[w1.heap.size]? = some (.cells #[.int .i64 bud, .slice v1 ps.length v2, .slice v3 ss.length v4, .slice v5 ws.length v6, .slice v7 ts.length v8, .bool bg, .bool bk] 36) ∧ W1.heap[gx]? = some (bPair (.pointer (some ⟨gp, 0, none⟩)) bud (.slice m1 ps.length m2) (.slice m3 ss.length m4) (.slice m5 ws.length m6) (.slice m7 ts.length m8) bg bk nx hb hv) ∧ NewSta w W1 ⟨bud, ps, ss, ws, ts, bg, bk⟩ ⟨v1, v2, v3, v4, v5, v6, v7, v8⟩ ∧ w1.heap.size < W1.heap.size) := ⟨hW1, nx_trans hb1 hbW, hz1, hx1, hn1.nx hbW, by rw [hW1]; simp⟩
  have HSS := hideIt (sameState_true ⟨bud, ps, ss, ws, ts, bg, bk⟩ ⟨v1, v2, v3, v4, v5, v6, v7, v8⟩ ⟨m1, m2, m3, m4, m5, m6, m7, m8⟩ W1.drew ((KW.out.2.2.2.2.1.at).nx ((Below.refl _ W1).drew)) ((HSN.out.ref.nx KW.out.2.1).nx ((Below.refl _ W1).drew)) HSM.out)
  simp only [staA] at HSS
  clear hn1 hb1 hbW hW1 HSH x0 x1 x2 x3 x4 x5 x6 x7
  go_upto_region 2 with fail
  rw [← KW.out.1]
  obtain ⟨x0, x1, x2, x3, x4, x5, x6, x7⟩ := blk11 hx1
  obtain ⟨y0, y1, y2, y3, y4, y5, y6, yz⟩ := blk7d hz1
  clear hx1 hz1
  go_cut [6] (fun v wx => v = .bool true ∧ Hid (Below W1.heap.size W1 wx))
  case first =>
    go_region_with (go_at_call 12; refine HSS.out.mono ?_; rintro e w9 ⟨rfl, hb9⟩)
    all_goals
      have K9 : Hid (Below W1.heap.size W1 w9) := nx_trans ((Below.refl _ W1).drew) hb9
      clear hb9
      go_wp2_with fail
      go_meet
      exact ⟨rfl, K9.out⟩
  case rest =>
    obtain ⟨rfl, KC⟩ := hcut
    have KD : Hid (Below w.heap.size w wc ∧ NewSta w wc ⟨bud, ps, ss, ws, ts, bg, bk⟩ ⟨v1, v2, v3, v4, v5, v6, v7, v8⟩ ∧ wc.heap[w1.heap.size]? = some (.cells #[.int .i64 bud, .slice v1 ps.length v2, .slice v3 ss.length v4, .slice v5 ws.length v6, .slice v7 ts.length v8, .bool bg, .bool bk] 36)) :=
      ⟨nx_trans KW.out.2.1 KC.out, KW.out.2.2.2.2.1.nx KC.out, (KC.out.block _ KW.out.2.2.2.2.2).trans KW.out.2.2.1⟩
    have HT := hideIt (take_state HSN.out.own KD.out.1 ⟨by omega, by omega, by omega⟩ KD.out.2.1)
    simp only [staA] at HT
    clear x0 x1 x2 x3 x4 x5 x6 x7 y0 y1 y2 y3 y4 y5 y6 yz HSS
    obtain ⟨y0, y1, y2, y3, y4, y5, y6, yz⟩ := blk7d KD.out.2.2
    go_wp2_with fail
    refine HT.out.mono ?_
    rintro e w3 ⟨⟨x, rfl⟩, F3, ho3, hF3, hc3⟩
    have HS3 := hideIt (HSN.out.next hc3 ho3 hF3)
    have KF3 : Hid ((∀ y, F3 y → F y ∨ w.heap.size ≤ y) ∧ Chg F w w3) := ⟨hF3, hc3⟩
    obtain ⟨nx3, hb3, hv3, hp3⟩ := HS3.out.pr
    have hxlt3 : gx < w3.heap.size := (Array.getElem?_eq_some_iff.1 hp3).1
    simp only at hp3
    obtain ⟨x0, x1, x2, x3, x4, x5, x6, x7⟩ := blk11 hp3
    have HP3 := hideIt hp3
    have HSH := hideIt (show_any gp ⟨bud, ps, ss, ws, ts, bg, bk⟩ op Fp w3 HS3.out.desk HF.out)
    clear ho3 hF3 hc3 hp3 HT y0 y1 y2 y3 y4 y5 y6 yz KC KD KW K1
    go_wp2_with fail
    refine HSH.out.mono ?_
    rintro e w4 ⟨⟨v1', v2', v3', v4', v5', v6', v7', v8'⟩, rfl, hn4, hb4⟩
    simp only
    obtain ⟨W4, hW4⟩ : ∃ W4, W4 = w4.alloc (.cells #[.int .i64 bud, .slice v1' ps.length v2', .slice v3' ss.length v4', .slice v5' ws.length v6', .slice v7' ts.length v8', .bool bg, .bool bk] 36) := ⟨_, rfl⟩
    have hbW : Below w4.heap.size w4 W4 := by rw [hW4]; exact nx_alloc _ _
    have hz4 : W4.heap[w4.heap.size]? = some (.cells #[.int .i64 bud, .slice v1' ps.length v2', .slice v3' ss.length v4', .slice v5' ws.length v6', .slice v7' ts.length v8', .bool bg, .bool bk] 36) := by rw [hW4]; exact heap_alloc_at _ _ rfl
    have hx4 : W4.heap[gx]? = some (bPair (.pointer (some ⟨gp, 0, none⟩)) bud (.slice m1 ps.length m2) (.slice m3 ss.length m4) (.slice m5 ws.length m6) (.slice m7 ts.length m8) bg bk nx3 hb3 hv3) := ((nx_trans hb4 hbW).block gx hxlt3).trans HP3.out
    have KW : Hid (W4 = w4.alloc (.cells #[.int .i64 bud, .slice v1' ps.length v2', .slice v3' ss.length v4', .slice v5' ws.length v6', .slice v7' ts.length v8', .bool bg, .bool bk] 36) ∧ Below w3.heap.size w3 W4 ∧ W4.heap[w4.heap.size]? = some (.cells #[.int .i64 bud, .slice v1' ps.length v2', .slice v3' ss.length v4', .slice v5' ws.length v6', .slice v7' ts.length v8', .bool bg, .bool bk] 36) ∧ W4.heap[gx]? = some (bPair (.pointer (some ⟨gp, 0, none⟩)) bud (.slice m1 ps.length m2) (.slice m3 ss.length m4) (.slice m5 ws.length m6) (.slice m7 ts.length m8) bg bk nx3 hb3 hv3) ∧ NewSta w3 W4 ⟨bud, ps, ss, ws, ts, bg, bk⟩ ⟨v1', v2', v3', v4', v5', v6', v7', v8'⟩ ∧ w4.heap.size < W4.heap.size) := ⟨hW4, nx_trans hb4 hbW, hz4, hx4, hn4.nx hbW, by rw [hW4]; simp⟩
    have HSS := hideIt (sameState_true ⟨bud, ps, ss, ws, ts, bg, bk⟩ ⟨v1', v2', v3', v4', v5', v6', v7', v8'⟩ ⟨m1, m2, m3, m4, m5, m6, m7, m8⟩ W4.drew ((KW.out.2.2.2.2.1.at).nx ((Below.refl _ W4).drew)) ((HS3.out.ref.nx KW.out.2.1).nx ((Below.refl _ W4).drew)) HSM.out)
    simp only [staA] at HSS
    clear hn4 hb4 hbW hW4 HSH x0 x1 x2 x3 x4 x5 x6 x7
    go_upto_region 7 with fail
    rw [← KW.out.1]
    obtain ⟨x0, x1, x2, x3, x4, x5, x6, x7⟩ := blk11 hx4
    obtain ⟨y0, y1, y2, y3, y4, y5, y6, yz⟩ := blk7d hz4
    clear hx4 hz4
    go_cut [8] (fun v wx => v = .bool true ∧ Hid (Below W4.heap.size W4 wx))
    case first =>
      go_region_with (go_at_call 12; refine HSS.out.mono ?_; rintro e w9 ⟨rfl, hb9⟩)
      all_goals
        have K9 : Hid (Below W4.heap.size W4 w9) := nx_trans ((Below.refl _ W4).drew) hb9
        clear hb9
        go_wp2_with fail
        go_meet
        exact ⟨rfl, K9.out⟩
    case rest =>
      obtain ⟨rfl, KC⟩ := hcut
      rename_i wd
      have KD : Hid (Below w3.heap.size w3 wc ∧ NewSta w3 wc ⟨bud, ps, ss, ws, ts, bg, bk⟩ ⟨v1', v2', v3', v4', v5', v6', v7', v8'⟩ ∧ wc.heap[w4.heap.size]? = some (.cells #[.int .i64 bud, .slice v1' ps.length v2', .slice v3' ss.length v4', .slice v5' ws.length v6', .slice v7' ts.length v8', .bool bg, .bool bk] 36)) :=
        ⟨nx_trans KW.out.2.1 KC.out, KW.out.2.2.2.2.1.nx KC.out, (KC.out.block _ KW.out.2.2.2.2.2).trans KW.out.2.2.1⟩
      have HT := hideIt (take_state HS3.out.own KD.out.1 ⟨by omega, by omega, by omega⟩ KD.out.2.1)
      simp only [staA] at HT
      clear x0 x1 x2 x3 x4 x5 x6 x7 y0 y1 y2 y3 y4 y5 y6 yz HSS
      obtain ⟨y0, y1, y2, y3, y4, y5, y6, yz⟩ := blk7d KD.out.2.2
      go_wp2_with fail
      refine HT.out.mono ?_
      rintro e w5 ⟨⟨x, rfl⟩, F5, ho5, hF5, hc5⟩
      have HK := hideIt (okept_own go F5 (q1 + 1 + 1) (q2 + 1 + 1) (q4 + 1 + 1) w5 ho5 ⟨by omega, by omega, by omega⟩)
      have KE : Hid (OwnAt w5 go F5 (q1 + 2) (q2 + 2) (q2 + 2) (q4 + 2) ∧ (∀ y, F5 y → F y ∨ w.heap.size ≤ y) ∧ Chg F w w5) := by
        refine ⟨ho5, fun y hy => ?_, KF3.out.2.trans hc5 (fun y hy => KF3.out.1 y hy)⟩
        rcases hF5 y hy with hy | hy
        · exact KF3.out.1 y hy
        · exact .inr (Nat.le_trans KF3.out.2.size hy)
      clear ho5 hF5 hc5 HT y0 y1 y2 y3 y4 y5 y6 yz KC KD KW
      go_wp2_with fail
      refine HK.out.mono ?_
      rintro e w6 ⟨rfl, rfl⟩
      go_wp2_with fail
      go_ret
      exact ⟨rfl, F5, KE.out.1, KE.out.2.1, KE.out.2.2⟩
theorem looked_any (gx gp go : Nat) (S : Sta) (op : Aux) (Fp F : Nat → Prop) (u : Stv) (q1 q2 q4 : Nat) (w : World) (h : Seen w gx gp go S op Fp F u q1 q2 q4) (hs : Small S) (hf : Fits S) (hq : q1 ≤ 1099511627770 ∧ q2 ≤ 1099511627770 ∧ q4 ≤ 1099511627770) :
    Calls Tryz.prog 6 #[.pointer (some ⟨gx, 0, none⟩), .pointer (some ⟨go, 0, none⟩)] w fun e w' => e = .returned (.bool true) ∧ ∃ F', OwnAt w' go F' (q1 + 2) (q2 + 2) (q2 + 2) (q4 + 2) ∧ (∀ y, F' y → F y ∨ w.heap.size ≤ y) ∧ Chg F w w' :=
  looked_flat gx gp go S.bud S.pools S.srv S.wts S.plan S.begun S.back op Fp F u.po u.pc u.so u.sc u.wo u.wc u.to u.tc q1 q2 q4 w h hs hf hq
end Lw
end Go.Proofs.YtmmmjpkhnbfnbaaGreat
namespace Go.Proofs.YtmmmjpkhnbfnbaaGreat
open Go.RowKit
namespace Lw
open Co

theorem rows_none (ty tyl : TypeId) (sz : Nat) (mk : Int → List Value) (w : World) (F : Nat → Prop) : RowsG ty tyl sz mk w F (.slice none 0 0) 0 :=
  ⟨[], World.ownsRow_nil _ _ _ _, fun g hg => by simp [Value.ownBlock] at hg, fun i x hx => by simp at hx⟩
theorem own_new {w : World} {go : Nat} (h : w.heap[go]? = some (bOw (.slice none 0 0) (.slice none 0 0) (.slice none 0 0) (.slice none 0 0))) : OwnAt w go (fun y => y = go) 0 0 0 0 :=
  ⟨⟨_, _, _, _, h, rows_none _ _ _ _ _ _, rows_none _ _ _ _ _ _, rows_none _ _ _ _ _ _, rows_none _ _ _ _ _ _⟩, rfl, fun x hx => by rw [hx]; exact (Array.getElem?_eq_some_iff.1 h).1⟩

end Lw
end Go.Proofs.YtmmmjpkhnbfnbaaGreat
