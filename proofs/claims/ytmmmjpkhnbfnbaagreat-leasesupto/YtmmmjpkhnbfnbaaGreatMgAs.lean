import Derived.Test.YtmmmjpkhnbfnbaaGreatMgAr
import Derived.Test.YtmmmjpkhnbfnbaaGreatMgAc
import Derived.Test.YtmmmjpkhnbfnbaaGreatMgS
namespace Go.Proofs.YtmmmjpkhnbfnbaaGreat
open Go.RowKit
namespace Lw
open Co

/-- a World of the reference as a value -/
abbrev wdA (S : Sta) (u : Stv) (nx : Int) (Y : Int × List Pl) (ho : Option Addr) (hc : Nat) : Value :=
  .agg #[.int .i64 S.bud, .slice u.po S.pools.length u.pc, .slice u.so S.srv.length u.sc, .slice u.wo S.wts.length u.wc, .slice u.to S.plan.length u.tc, .bool S.begun, .bool S.back, .int .i64 nx, .int .i64 Y.1, .slice ho Y.2.length hc]
/-- the blocks of a World's lists -/
def Blkh (S : Sta) (u : Stv) (Y : Int × List Pl) (ho : Option Addr) (hc : Nat) (g : Nat) : Prop := Blk S u g ∨ (Value.slice ho Y.2.length hc).ownBlock = some g
/-- a World of the reference lies there -/
structure WdAt (w : World) (S : Sta) (u : Stv) (Y : Int × List Pl) (ho : Option Addr) (hc : Nat) : Prop where
  sta : StaAt w S u
  hom : RowAt w (.slice ho Y.2.length hc) Y.2.length (flatP Y.2)
  lt : ∀ g, Blkh S u Y ho hc g → g < w.heap.size
theorem WdAt.keep {w w' : World} {S : Sta} {u : Stv} {Y : Int × List Pl} {ho : Option Addr} {hc : Nat} {G : Nat → Prop} (h : WdAt w S u Y ho hc) (hch : Chg G w w') (hd : ∀ g, Blkh S u Y ho hc g → ¬ G g) : WdAt w' S u Y ho hc :=
  ⟨h.sta.keep hch (fun g hg => h.lt g (.inl hg)) (fun g hg => hd g (.inl hg)), row_keep h.hom hch.size (fun g hg => hch.block g (h.lt g (.inr hg)) (hd g (.inr hg))), fun g hg => Nat.lt_of_lt_of_le (h.lt g hg) hch.size⟩
theorem WdAt.nx {w w' : World} {S : Sta} {u : Stv} {Y : Int × List Pl} {ho : Option Addr} {hc : Nat} (h : WdAt w S u Y ho hc) (hb : Below w.heap.size w w') : WdAt w' S u Y ho hc := h.keep (G := fun _ => False) (Chg.of_below hb) (fun _ _ h => h)
/-- what a call of the reference leaves: a World T, of the old lists or of new ones -/
structure RefG (w w' : World) (S : Sta) (u : Stv) (Y : Int × List Pl) (ho : Option Addr) (hc : Nat) (T : Sta) (v : Stv) (Z : Int × List Pl) (ho' : Option Addr) (hc' : Nat) : Prop where
  at' : WdAt w' T v Z ho' hc'
  blk : ∀ g, Blkh T v Z ho' hc' g → Blkh S u Y ho hc g ∨ w.heap.size ≤ g
  bel : Below w.heap.size w w'
theorem RefG.same {w w' : World} {S : Sta} {u : Stv} {Y : Int × List Pl} {ho : Option Addr} {hc : Nat} (h : WdAt w S u Y ho hc) (hb : Below w.heap.size w w') : RefG w w' S u Y ho hc S u Y ho hc := ⟨h.nx hb, fun _ hg => .inl hg, hb⟩
theorem RefG.gave {w w' : World} {S : Sta} {u : Stv} {Y : Int × List Pl} {ho : Option Addr} {hc : Nat} {T : Sta} {nx : Int} {Z : Int × List Pl} {v : Value} (h : GaveO w.heap.size w w' T.bud T.pools T.srv T.wts T.plan T.begun T.back nx Z.1 Z.2 (.returned v)) :
    ∃ u' ho' hc', v = wdA T u' nx Z ho' hc' ∧ RefG w w' S u Y ho hc T u' Z ho' hc' := by
  obtain ⟨po', pc', so', sc', wo', wc', qo', tc', ho', hc', hv, o0, o1, o2, o3, o4, hb⟩ := h
  refine ⟨⟨po', pc', so', sc', wo', wc', qo', tc'⟩, ho', hc', by simpa using hv, ⟨⟨own_row o0, own_row o1, own_row o2, own_row o3⟩, own_row o4, ?_⟩, ?_, hb⟩
  · rintro g ((hg | hg | hg | hg) | hg)
    · exact (o0.lt g hg).2
    · exact (o1.lt g hg).2
    · exact (o2.lt g hg).2
    · exact (o3.lt g hg).2
    · exact (o4.lt g hg).2
  · rintro g ((hg | hg | hg | hg) | hg)
    · exact .inr (o0.lt g hg).1
    · exact .inr (o1.lt g hg).1
    · exact .inr (o2.lt g hg).1
    · exact .inr (o3.lt g hg).1
    · exact .inr (o4.lt g hg).1
/-- what the reference's calls need -/
structure RefOk (S : Sta) (op : Int) (Y : Int × List Pl) : Prop where
  ok : Ok S op
  pot1 : pot (S, op) + 1 ≤ 549755813888
  pools : S.pools.length ≤ 549755813888
  plan : S.plan.length ≤ 549755813888
  home : Y.2.length ≤ 549755813888
theorem RefOk.num {S : Sta} {op : Int} {Y : Int × List Pl} (h : RefOk S op Y) : S.srv.length ≤ 549755813888 ∧ S.wts.length ≤ 549755813888 ∧ S.srv.length + S.wts.length + 1 ≤ 549755813888 ∧ 0 ≤ op + 1 ∧ op + 1 + S.wts.length + 1 ≤ 4611686018427387904 := by
  have h1 := h.ok.inv.len
  have h2 := h.ok.inv.op0
  have h3 := h.pot1
  unfold pot at h3
  simp only at h3
  omega

theorem refLeave (c : Int) (S : Sta) (op : Int) (Y : Int × List Pl) (u : Stv) (ho : Option Addr) (hc : Nat) (w : World) (h : WdAt w S u Y ho hc) (hk : RefOk S op Y) :
    Calls Tryz.prog 39 #[wdA S u (op + 1) Y ho hc, .int .i64 c] w fun e w' => ∃ u' ho' hc', e = .returned (.tuple #[wdA (rLeave S (op + 1) c).S u' (rLeave S (op + 1) c).op Y ho' hc', .int .i64 ((rLeave S (op + 1) c).err : Int)]) ∧ RefG w w' S u Y ho hc (rLeave S (op + 1) c).S u' Y ho' hc' := by
  obtain ⟨k1, k2, k3, k4, k5⟩ := hk.num
  have k6 := hk.pools
  have k7 := hk.plan
  have k8 := hk.home
  refine (leave_any S.bud u.po _ u.pc u.so _ u.sc u.wo _ u.wc u.to _ u.tc S.begun S.back (op + 1) Y.1 ho _ hc S.pools S.srv S.wts S.plan Y.2 w c h.sta.p rfl (by omega) h.sta.s rfl (by omega) h.sta.t rfl (by omega) h.sta.l rfl (by omega) h.hom rfl (by omega)).mono ?_
  intro e w' hl
  rcases leave_link (S := S) hl with ⟨_, h2, h3, h4, h5⟩ | ⟨h1, v, h2, h3⟩
  · exact ⟨u, ho, hc, by rw [h2, h3]; exact h4, by rw [h2]; exact RefG.same h h5⟩
  · have hs : (rLeave S (op + 1) c).S.bud = S.bud ∧ (rLeave S (op + 1) c).S.pools = S.pools ∧ (rLeave S (op + 1) c).S.plan = S.plan ∧ (rLeave S (op + 1) c).S.begun = S.begun ∧ (rLeave S (op + 1) c).S.back = S.back := by
      unfold rLeave
      split
      · exact ⟨rfl, rfl, rfl, rfl, rfl⟩
      · split <;> exact ⟨rfl, rfl, rfl, rfl, rfl⟩
    obtain ⟨s1, s2, s3, s4, s5⟩ := hs
    obtain ⟨u', ho', hc', hv, hg⟩ := RefG.gave (u := u) (S := S) (Y := Y) (ho := ho) (hc := hc) (Z := Y) (T := (rLeave S (op + 1) c).S) (by rw [s1, s2, s3, s4, s5]; exact h3)
    exact ⟨u', ho', hc', by rw [h1, h2, hv]; rfl, hg⟩
theorem rest_rDone (S : Sta) (nx : Int) (c : Int) : Rest S (rDone S nx c).S := by
  have hr : ∀ (f : Nat) (T : Sta) (n : Int), Rest T (rServed f T n).1 := fun f T n => by rw [served_link]; exact ⟨rfl, rfl, rfl, rfl, rfl⟩
  unfold rDone
  split
  · exact Rest.refl _
  · split
    · exact Rest.refl _
    · split
      · exact Rest.refl _
      · refine Rest.trans ?_ (hr _ _ _)
        split <;> exact ⟨rfl, rfl, rfl, rfl, rfl⟩
theorem refDone (c : Int) (S : Sta) (op : Int) (Y : Int × List Pl) (u : Stv) (ho : Option Addr) (hc : Nat) (w : World) (h : WdAt w S u Y ho hc) (hk : RefOk S op Y) :
    Calls Tryz.prog 37 #[wdA S u (op + 1) Y ho hc, .int .i64 c] w fun e w' => ∃ u' ho' hc', e = .returned (.tuple #[wdA (rDone S (op + 1) c).S u' (rDone S (op + 1) c).op Y ho' hc', .int .i64 ((rDone S (op + 1) c).err : Int)]) ∧ RefG w w' S u Y ho hc (rDone S (op + 1) c).S u' Y ho' hc' := by
  obtain ⟨k1, k2, k3, k4, k5⟩ := hk.num
  have k6 := hk.pools
  have k7 := hk.plan
  have k8 := hk.home
  refine (done_any S.bud u.po _ u.pc u.so _ u.sc u.wo _ u.wc u.to _ u.tc S.begun S.back (op + 1) Y.1 ho _ hc S.pools S.srv S.wts S.plan Y.2 w c h.sta.p rfl (by omega) h.sta.s rfl (by omega) h.sta.t rfl (by omega) h.sta.l rfl (by omega) h.hom rfl (by omega) (by omega) (by omega) (by omega)).mono ?_
  intro e w' hl
  rcases doneW_link (S := S) hl with ⟨_, h2, h3, h4, h5⟩ | ⟨h1, v, h2, h3⟩
  · exact ⟨u, ho, hc, by rw [h2, h3]; exact h4, by rw [h2]; exact RefG.same h h5⟩
  · obtain ⟨s2, s1, s3, s4, s5⟩ := rest_rDone S (op + 1) c
    obtain ⟨u', ho', hc', hv, hg⟩ := RefG.gave (u := u) (S := S) (Y := Y) (ho := ho) (hc := hc) (Z := Y) (T := (rDone S (op + 1) c).S) (by rw [s1, s2, s3, s4, s5]; exact h3)
    exact ⟨u', ho', hc', by rw [h1, h2, hv]; rfl, hg⟩
theorem rest_rCrash (S : Sta) (nx : Int) (id : Int) : Rest S (rCrash S nx id).S := by
  have hr : ∀ (f : Nat) (T : Sta) (n : Int), Rest T (rServed f T n).1 := fun f T n => by rw [served_link]; exact ⟨rfl, rfl, rfl, rfl, rfl⟩
  unfold rCrash
  split
  · exact Rest.refl _
  · exact Rest.trans ⟨rfl, rfl, rfl, rfl, rfl⟩ (hr _ _ _)
theorem refCrash (id : Int) (S : Sta) (op : Int) (Y : Int × List Pl) (u : Stv) (ho : Option Addr) (hc : Nat) (w : World) (h : WdAt w S u Y ho hc) (hk : RefOk S op Y) :
    Calls Tryz.prog 41 #[wdA S u (op + 1) Y ho hc, .int .i64 id] w fun e w' => ∃ u' ho' hc', e = .returned (.tuple #[wdA (rCrash S (op + 1) id).S u' (rCrash S (op + 1) id).op Y ho' hc', .int .i64 ((rCrash S (op + 1) id).err : Int)]) ∧ RefG w w' S u Y ho hc (rCrash S (op + 1) id).S u' Y ho' hc' := by
  obtain ⟨k1, k2, k3, k4, k5⟩ := hk.num
  have k6 := hk.pools
  have k7 := hk.plan
  have k8 := hk.home
  refine (crash_any S.bud u.po _ u.pc u.so _ u.sc u.wo _ u.wc u.to _ u.tc S.begun S.back (op + 1) Y.1 ho _ hc S.pools S.srv S.wts S.plan Y.2 w id h.sta.p rfl (by omega) h.sta.s rfl (by omega) h.sta.t rfl (by omega) h.sta.l rfl (by omega) h.hom rfl (by omega) (by omega) (by omega) (by omega)).mono ?_
  intro e w' hl
  rcases crash_link (S := S) hl with ⟨_, h2, h3, h4, h5⟩ | ⟨h1, v, h2, h3⟩
  · exact ⟨u, ho, hc, by rw [h2, h3]; exact h4, by rw [h2]; exact RefG.same h h5⟩
  · obtain ⟨s2, s1, s3, s4, s5⟩ := rest_rCrash S (op + 1) id
    obtain ⟨u', ho', hc', hv, hg⟩ := RefG.gave (u := u) (S := S) (Y := Y) (ho := ho) (hc := hc) (Z := Y) (T := (rCrash S (op + 1) id).S) (by rw [s1, s2, s3, s4, s5]; exact h3)
    exact ⟨u', ho', hc', by rw [h1, h2, hv]; rfl, hg⟩
end Lw
end Go.Proofs.YtmmmjpkhnbfnbaaGreat
namespace Go.Proofs.YtmmmjpkhnbfnbaaGreat
open Go.RowKit
namespace Lw
open Co

/-- the pair of a pooler (state D) and the document's World (state S, next number nx, home Y), and what the law owns -/
structure Run (w : World) (gx gp go : Nat) (D : Sta) (X : Aux) (S : Sta) (nx : Int) (Y : Int × List Pl) (Fp F : Nat → Prop) (u : Stv) (ho : Option Addr) (hc : Nat) (q1 q2 q4 : Nat) : Prop where
  pr : w.heap[gx]? = some (bPair (.pointer (some ⟨gp, 0, none⟩)) S.bud (.slice u.po S.pools.length u.pc) (.slice u.so S.srv.length u.sc) (.slice u.wo S.wts.length u.wc) (.slice u.to S.plan.length u.tc) S.begun S.back nx Y.1 (.slice ho Y.2.length hc))
  desk : DeskAt w gp D X Fp
  ref : WdAt w S u Y ho hc
  own : OwnAt w go F q1 q2 q2 q4
  dx : ¬ F gx
  dxp : ¬ Fp gx
  dp : ∀ y, Fp y → ¬ F y
  dr : ∀ g, Blkh S u Y ho hc g → ¬ F g
  drp : ∀ g, Blkh S u Y ho hc g → ¬ Fp g
  drx : ∀ g, Blkh S u Y ho hc g → g ≠ gx
theorem Run.lt {w : World} {gx gp go : Nat} {D : Sta} {X : Aux} {S : Sta} {nx : Int} {Y : Int × List Pl} {Fp F : Nat → Prop} {u : Stv} {ho : Option Addr} {hc q1 q2 q4 : Nat} (h : Run w gx gp go D X S nx Y Fp F u ho hc q1 q2 q4) : gx < w.heap.size := (Array.getElem?_eq_some_iff.1 h.pr).1
theorem Run.below {w w' : World} {gx gp go : Nat} {D : Sta} {X : Aux} {S : Sta} {nx : Int} {Y : Int × List Pl} {Fp F : Nat → Prop} {u : Stv} {ho : Option Addr} {hc q1 q2 q4 : Nat} (h : Run w gx gp go D X S nx Y Fp F u ho hc q1 q2 q4) (hb : Below w.heap.size w w') : Run w' gx gp go D X S nx Y Fp F u ho hc q1 q2 q4 :=
  ⟨(hb.block gx h.lt).trans h.pr, h.desk.keep (G := fun _ => False) (Chg.of_below hb) (fun _ _ h => h), h.ref.nx hb, h.own.keep (G := fun _ => False) (Chg.of_below hb) (fun _ _ h => h), h.dx, h.dxp, h.dp, h.dr, h.drp, h.drx⟩
/-- a call of the pooler -/
theorem Run.moved {w w' : World} {gx gp go : Nat} {D : Sta} {X : Aux} {S : Sta} {nx : Int} {Y : Int × List Pl} {Fp F : Nat → Prop} {u : Stv} {ho : Option Addr} {hc q1 q2 q4 : Nat} (h : Run w gx gp go D X S nx Y Fp F u ho hc q1 q2 q4) {D' : Sta} {X' : Aux} (hm : Moved w w' gp D' X' Fp) :
    ∃ Fp', Run w' gx gp go D' X' S nx Y Fp' F u ho hc q1 q2 q4 ∧ ∀ y, Fp' y → Fp y ∨ w.heap.size ≤ y := by
  obtain ⟨Fp', hd, hF, hch⟩ := hm
  refine ⟨Fp', ⟨(hch.block gx h.lt h.dxp).trans h.pr, hd, h.ref.keep hch h.drp, h.own.keep hch (fun x hx hp => h.dp x hp hx), h.dx, fun hx => ?_, fun y hy hf => ?_, h.dr, fun g hg hp => ?_, h.drx⟩, hF⟩
  · rcases hF gx hx with hx | hx
    · exact h.dxp hx
    · have := h.lt; omega
  · rcases hF y hy with hx | hx
    · exact h.dp y hx hf
    · have := h.own.lt y hf; omega
  · rcases hF g hp with hx | hx
    · exact h.drp g hg hx
    · have := h.ref.lt g hg; omega
/-- what looked needs, and what it leaves -/
theorem Run.seen {w : World} {gx gp go : Nat} {X : Aux} {S : Sta} {nx : Int} {Y : Int × List Pl} {Fp F : Nat → Prop} {u : Stv} {ho : Option Addr} {hc q1 q2 q4 : Nat} (h : Run w gx gp go S X S nx Y Fp F u ho hc q1 q2 q4) : Seen w gx gp go S X Fp F u q1 q2 q4 :=
  ⟨⟨nx, Y.1, _, h.pr⟩, h.desk, h.ref.sta, fun g hg => h.ref.lt g (.inl hg), h.own, h.dx, h.dp, fun g hg => h.dr g (.inl hg)⟩
theorem Run.looked {w w' : World} {gx gp go : Nat} {D : Sta} {X : Aux} {S : Sta} {nx : Int} {Y : Int × List Pl} {Fp F F' : Nat → Prop} {u : Stv} {ho : Option Addr} {hc q1 q2 q4 r1 r2 r4 : Nat} (h : Run w gx gp go D X S nx Y Fp F u ho hc q1 q2 q4) (hch : Chg F w w') (ho' : OwnAt w' go F' r1 r2 r2 r4) (hF : ∀ y, F' y → F y ∨ w.heap.size ≤ y) : Run w' gx gp go D X S nx Y Fp F' u ho hc r1 r2 r4 := by
  refine ⟨(hch.block gx h.lt h.dx).trans h.pr, h.desk.keep hch h.dp, h.ref.keep hch h.dr, ho', fun hx => ?_, h.dxp, fun y hy hf => ?_, fun g hg hf => ?_, h.drp, h.drx⟩
  · rcases hF gx hx with hx | hx
    · exact h.dx hx
    · have := h.lt; omega
  · rcases hF y hf with hx | hx
    · exact h.dp y hy hx
    · have := h.desk.lt y hy; omega
  · rcases hF g hf with hx | hx
    · exact h.dr g hg hx
    · have := h.ref.lt g hg; omega
/-- ten cells from the second on -/
abbrev stw (w : World) (g : Nat) (v0 v1 v2 v3 v4 v5 v6 v7 v8 v9 : Value) : World := ((((((((((w.setCell ⟨g, 1, none⟩ v0).setCell ⟨g, 2, none⟩ v1).setCell ⟨g, 3, none⟩ v2).setCell ⟨g, 4, none⟩ v3).setCell ⟨g, 5, none⟩ v4).setCell ⟨g, 6, none⟩ v5).setCell ⟨g, 7, none⟩ v6).setCell ⟨g, 8, none⟩ v7).setCell ⟨g, 9, none⟩ v8).setCell ⟨g, 10, none⟩ v9)
theorem stw_low (w : World) (g : Nat) (v0 v1 v2 v3 v4 v5 v6 v7 v8 v9 : Value) {b : Nat} (hb : b ≠ g) : (stw w g v0 v1 v2 v3 v4 v5 v6 v7 v8 v9).heap[b]? = w.heap[b]? := by
  unfold stw
  simp only [Below.heap_setCell _ (⟨g, _, none⟩ : Addr) _ b hb]
theorem stw_chg (w : World) (g : Nat) (v0 v1 v2 v3 v4 v5 v6 v7 v8 v9 : Value) : Chg (fun y => y = g) w (stw w g v0 v1 v2 v3 v4 v5 v6 v7 v8 v9) := by
  have hs : ∀ (u : World) (a : Nat) (v : Value), Chg (fun y => y = g) u (u.setCell ⟨g, a, none⟩ v) := fun u a v => Chg.set (F := fun y => y = g) u g a v rfl
  have ht : ∀ {a b c : World}, Chg (fun y => y = g) a b → Chg (fun y => y = g) b c → Chg (fun y => y = g) a c := fun h k => h.trans k (fun _ hx => .inl hx)
  exact ht (ht (ht (ht (ht (ht (ht (ht (ht (hs _ _ _) (hs _ _ _)) (hs _ _ _)) (hs _ _ _)) (hs _ _ _)) (hs _ _ _)) (hs _ _ _)) (hs _ _ _)) (hs _ _ _)) (hs _ _ _)
theorem set11_1 {w : World} {g : Nat} {c0 c1 c2 c3 c4 c5 c6 c7 c8 c9 c10 : Value} {t : TypeId} (h : w.heap[g]? = some (.cells #[c0, c1, c2, c3, c4, c5, c6, c7, c8, c9, c10] t (0, 0))) (v : Value) : (w.setCell ⟨g, 1, none⟩ v).heap[g]? = some (.cells #[c0, v, c2, c3, c4, c5, c6, c7, c8, c9, c10] t (0, 0)) := set_heap _ _ _ _ _ _ h
theorem set11_2 {w : World} {g : Nat} {c0 c1 c2 c3 c4 c5 c6 c7 c8 c9 c10 : Value} {t : TypeId} (h : w.heap[g]? = some (.cells #[c0, c1, c2, c3, c4, c5, c6, c7, c8, c9, c10] t (0, 0))) (v : Value) : (w.setCell ⟨g, 2, none⟩ v).heap[g]? = some (.cells #[c0, c1, v, c3, c4, c5, c6, c7, c8, c9, c10] t (0, 0)) := set_heap _ _ _ _ _ _ h
theorem set11_3 {w : World} {g : Nat} {c0 c1 c2 c3 c4 c5 c6 c7 c8 c9 c10 : Value} {t : TypeId} (h : w.heap[g]? = some (.cells #[c0, c1, c2, c3, c4, c5, c6, c7, c8, c9, c10] t (0, 0))) (v : Value) : (w.setCell ⟨g, 3, none⟩ v).heap[g]? = some (.cells #[c0, c1, c2, v, c4, c5, c6, c7, c8, c9, c10] t (0, 0)) := set_heap _ _ _ _ _ _ h
theorem set11_4 {w : World} {g : Nat} {c0 c1 c2 c3 c4 c5 c6 c7 c8 c9 c10 : Value} {t : TypeId} (h : w.heap[g]? = some (.cells #[c0, c1, c2, c3, c4, c5, c6, c7, c8, c9, c10] t (0, 0))) (v : Value) : (w.setCell ⟨g, 4, none⟩ v).heap[g]? = some (.cells #[c0, c1, c2, c3, v, c5, c6, c7, c8, c9, c10] t (0, 0)) := set_heap _ _ _ _ _ _ h
theorem set11_5 {w : World} {g : Nat} {c0 c1 c2 c3 c4 c5 c6 c7 c8 c9 c10 : Value} {t : TypeId} (h : w.heap[g]? = some (.cells #[c0, c1, c2, c3, c4, c5, c6, c7, c8, c9, c10] t (0, 0))) (v : Value) : (w.setCell ⟨g, 5, none⟩ v).heap[g]? = some (.cells #[c0, c1, c2, c3, c4, v, c6, c7, c8, c9, c10] t (0, 0)) := set_heap _ _ _ _ _ _ h
theorem set11_6 {w : World} {g : Nat} {c0 c1 c2 c3 c4 c5 c6 c7 c8 c9 c10 : Value} {t : TypeId} (h : w.heap[g]? = some (.cells #[c0, c1, c2, c3, c4, c5, c6, c7, c8, c9, c10] t (0, 0))) (v : Value) : (w.setCell ⟨g, 6, none⟩ v).heap[g]? = some (.cells #[c0, c1, c2, c3, c4, c5, v, c7, c8, c9, c10] t (0, 0)) := set_heap _ _ _ _ _ _ h
theorem set11_7 {w : World} {g : Nat} {c0 c1 c2 c3 c4 c5 c6 c7 c8 c9 c10 : Value} {t : TypeId} (h : w.heap[g]? = some (.cells #[c0, c1, c2, c3, c4, c5, c6, c7, c8, c9, c10] t (0, 0))) (v : Value) : (w.setCell ⟨g, 7, none⟩ v).heap[g]? = some (.cells #[c0, c1, c2, c3, c4, c5, c6, v, c8, c9, c10] t (0, 0)) := set_heap _ _ _ _ _ _ h
theorem set11_8 {w : World} {g : Nat} {c0 c1 c2 c3 c4 c5 c6 c7 c8 c9 c10 : Value} {t : TypeId} (h : w.heap[g]? = some (.cells #[c0, c1, c2, c3, c4, c5, c6, c7, c8, c9, c10] t (0, 0))) (v : Value) : (w.setCell ⟨g, 8, none⟩ v).heap[g]? = some (.cells #[c0, c1, c2, c3, c4, c5, c6, c7, v, c9, c10] t (0, 0)) := set_heap _ _ _ _ _ _ h
theorem set11_9 {w : World} {g : Nat} {c0 c1 c2 c3 c4 c5 c6 c7 c8 c9 c10 : Value} {t : TypeId} (h : w.heap[g]? = some (.cells #[c0, c1, c2, c3, c4, c5, c6, c7, c8, c9, c10] t (0, 0))) (v : Value) : (w.setCell ⟨g, 9, none⟩ v).heap[g]? = some (.cells #[c0, c1, c2, c3, c4, c5, c6, c7, c8, v, c10] t (0, 0)) := set_heap _ _ _ _ _ _ h
theorem set11_10 {w : World} {g : Nat} {c0 c1 c2 c3 c4 c5 c6 c7 c8 c9 c10 : Value} {t : TypeId} (h : w.heap[g]? = some (.cells #[c0, c1, c2, c3, c4, c5, c6, c7, c8, c9, c10] t (0, 0))) (v : Value) : (w.setCell ⟨g, 10, none⟩ v).heap[g]? = some (.cells #[c0, c1, c2, c3, c4, c5, c6, c7, c8, c9, v] t (0, 0)) := set_heap _ _ _ _ _ _ h
theorem stw_heap {w : World} {g : Nat} {p c0 c1 c2 c3 c4 c5 c6 c7 c8 c9 : Value} {t : TypeId} (h : w.heap[g]? = some (.cells #[p, c0, c1, c2, c3, c4, c5, c6, c7, c8, c9] t (0, 0))) (v0 v1 v2 v3 v4 v5 v6 v7 v8 v9 : Value) : (stw w g v0 v1 v2 v3 v4 v5 v6 v7 v8 v9).heap[g]? = some (.cells #[p, v0, v1, v2, v3, v4, v5, v6, v7, v8, v9] t (0, 0)) :=
  set11_10 (set11_9 (set11_8 (set11_7 (set11_6 (set11_5 (set11_4 (set11_3 (set11_2 (set11_1 h v0) v1) v2) v3) v4) v5) v6) v7) v8) v9
/-- the answer of the reference is taken over -/
theorem Run.taken {w w2 : World} {gx gp go : Nat} {D : Sta} {X : Aux} {S : Sta} {nx : Int} {Y : Int × List Pl} {Fp F : Nat → Prop} {u : Stv} {ho : Option Addr} {hc q1 q2 q4 : Nat} (h : Run w gx gp go D X S nx Y Fp F u ho hc q1 q2 q4) {T : Sta} {v : Stv} {Z : Int × List Pl} {ho' : Option Addr} {hc' : Nat} (hg : RefG w w2 S u Y ho hc T v Z ho' hc') {w3 : World} (hb : Below w2.heap.size w2 w3) (nx' : Int) :
    Run (stw w3 gx (.int .i64 T.bud) (.slice v.po T.pools.length v.pc) (.slice v.so T.srv.length v.sc) (.slice v.wo T.wts.length v.wc) (.slice v.to T.plan.length v.tc) (.bool T.begun) (.bool T.back) (.int .i64 nx') (.int .i64 Z.1) (.slice ho' Z.2.length hc')) gx gp go D X T nx' Z Fp F v ho' hc' q1 q2 q4 := by
  have h3 := h.below (nx_trans hg.bel hb)
  have hch := stw_chg w3 gx (.int .i64 T.bud) (.slice v.po T.pools.length v.pc) (.slice v.so T.srv.length v.sc) (.slice v.wo T.wts.length v.wc) (.slice v.to T.plan.length v.tc) (.bool T.begun) (.bool T.back) (.int .i64 nx') (.int .i64 Z.1) (.slice ho' Z.2.length hc')
  have hx : ∀ g, Blkh T v Z ho' hc' g → g ≠ gx := fun g hgb e => by
    rcases hg.blk g hgb with h1 | h1
    · exact h.drx g h1 e
    · have := h.lt; omega
  refine ⟨stw_heap h3.pr _ _ _ _ _ _ _ _ _ _, h3.desk.keep hch (fun x hp e => h.dxp (by rw [← show x = gx from e]; exact hp)), (hg.at'.nx hb).keep hch hx, h3.own.keep hch (fun x hp e => h.dx (by rw [← show x = gx from e]; exact hp)), h.dx, h.dxp, h.dp, fun g hgb hf => ?_, fun g hgb hf => ?_, hx⟩
  · rcases hg.blk g hgb with h1 | h1
    · exact h.dr g h1 hf
    · have := h.own.lt g hf; omega
  · rcases hg.blk g hgb with h1 | h1
    · exact h.drp g h1 hf
    · have := h.desk.lt g hf; omega
end Lw
end Go.Proofs.YtmmmjpkhnbfnbaaGreat
