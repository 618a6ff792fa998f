import Derived.Test.YtohbonfngeblkaaGreatMnZ
import Derived.Test.YtohbonfngeblkaaGreatMnK
import Derived.Test.YtohbonfngeblkaaGreatMnD
import Derived.WalkKit
import Derived.ProofKit
import Derived.OpenShut
import Derived.Deep.DeepHandedRow
import Derived.Deep.Slices
import Derived.SizedLaws
import Derived.Lib.SmallJoins
import Derived.Test.YtohbonfngeblkaaGreatRows
import Derived.JoinedCond
namespace Go.Proofs.YtohbonfngeblkaaGreat
open Go.RowKit
namespace Lw
open Co
def Blg (S : Sta) (v : Stv) (g : Nat) : Prop := (Value.slice v.po S.pools.length v.pc).ownBlock = some g ∨ (Value.slice v.so S.srv.length v.sc).ownBlock = some g ∨ (Value.slice v.wo S.wts.length v.wc).ownBlock = some g ∨ (Value.slice v.to S.plan.length v.tc).ownBlock = some g
structure Snap (w : World) (gs : Nat) (S : Sta) (v : Stv) (Fp : Nat → Prop) : Prop where
  box : w.heap[gs]? = some (bSta S v)
  sta : StaAt w S v
  blk : ∀ g, Blg S v g → g < w.heap.size ∧ ¬ Fp g ∧ g ≠ gs
  dgs : ¬ Fp gs
theorem Snap.lt {w : World} {gs : Nat} {S : Sta} {v : Stv} {Fp : Nat → Prop} (h : Snap w gs S v Fp) : gs < w.heap.size := (Array.getElem?_eq_some_iff.1 h.box).1
theorem sta_keep {w w' : World} {S : Sta} {v : Stv} (h : StaAt w S v) (hs : w.heap.size ≤ w'.heap.size) (hh : ∀ g, Blg S v g → w'.heap[g]? = w.heap[g]?) : StaAt w' S v :=
  ⟨grow_keep h.p hs (fun g hg => hh g (.inl hg)), grow_keep h.s hs (fun g hg => hh g (.inr (.inl hg))), grow_keep h.t hs (fun g hg => hh g (.inr (.inr (.inl hg)))), grow_keep h.l hs (fun g hg => hh g (.inr (.inr (.inr hg))))⟩
theorem Snap.chg {w w' : World} {gs : Nat} {S : Sta} {v : Stv} {Fp Fp' G : Nat → Prop} (h : Snap w gs S v Fp) (hch : Chg G w w') (hg : ¬ G gs) (hb : ∀ g, Blg S v g → ¬ G g) (hF : ∀ y, Fp' y → Fp y ∨ w.heap.size ≤ y) : Snap w' gs S v Fp' := by
  have hn : ∀ g, g < w.heap.size → ¬ Fp g → ¬ Fp' g := fun g hl hn hf => by
    rcases hF g hf with h1 | h1
    · exact hn h1
    · omega
  exact ⟨(hch.block gs h.lt hg).trans h.box, sta_keep h.sta hch.size (fun g hgb => hch.block g (h.blk g hgb).1 (hb g hgb)), fun g hgb => ⟨Nat.lt_of_lt_of_le (h.blk g hgb).1 hch.size, hn g (h.blk g hgb).1 (h.blk g hgb).2.1, (h.blk g hgb).2.2⟩, hn gs h.lt h.dgs⟩
theorem Snap.below {w w' : World} {gs : Nat} {S : Sta} {v : Stv} {Fp : Nat → Prop} (h : Snap w gs S v Fp) (hb : Below w.heap.size w w') : Snap w' gs S v Fp :=
  h.chg (G := fun _ => False) (Chg.of_below hb) (fun h => h) (fun _ _ h => h) (fun _ hy => .inl hy)
theorem Snap.moved {w w' : World} {gs : Nat} {S : Sta} {v : Stv} {Fp Fp' : Nat → Prop} (h : Snap w gs S v Fp) (hch : Chg Fp w w') (hF : ∀ y, Fp' y → Fp y ∨ w.heap.size ≤ y) : Snap w' gs S v Fp' :=
  h.chg hch h.dgs (fun g hg => (h.blk g hg).2.1) hF
theorem new_blk {w w' : World} {S : Sta} {v : Stv} (h : NewSta w w' S v) : ∀ g, Blg S v g → w.heap.size ≤ g ∧ g < w'.heap.size := by
  rintro g (hg | hg | hg | hg)
  · exact h.p.lt g hg
  · exact h.s.lt g hg
  · exact h.t.lt g hg
  · exact h.l.lt g hg
theorem snap_new {w w2 : World} {S : Sta} {v : Stv} {Fp : Nat → Prop} (hn : NewSta w w2 S v) (hb : Below w.heap.size w w2) (hF : ∀ y, Fp y → y < w.heap.size) : Snap (w2.alloc (bSta S v)) w2.heap.size S v Fp := by
  refine ⟨heap_alloc_at _ _ rfl, ⟨(own_row hn.p).nx (nx_alloc _ _), (own_row hn.s).nx (nx_alloc _ _), (own_row hn.t).nx (nx_alloc _ _), (own_row hn.l).nx (nx_alloc _ _)⟩, fun g hg => ?_, fun hf => ?_⟩
  · have h1 := new_blk hn g hg
    refine ⟨by simp; omega, fun hf => ?_, by omega⟩
    have := hF g hf
    omega
  · have := hF _ hf
    have := hb.size
    omega
abbrev stS (w : World) (g : Nat) (S : Sta) (v : Stv) : World := ((((((w.setCell ⟨g, 0, none⟩ (.int .i64 S.bud)).setCell ⟨g, 1, none⟩ (.slice v.po S.pools.length v.pc)).setCell ⟨g, 2, none⟩ (.slice v.so S.srv.length v.sc)).setCell ⟨g, 3, none⟩ (.slice v.wo S.wts.length v.wc)).setCell ⟨g, 4, none⟩ (.slice v.to S.plan.length v.tc)).setCell ⟨g, 5, none⟩ (.bool S.begun)).setCell ⟨g, 6, none⟩ (.bool S.back)
theorem stS_chg (w : World) (g : Nat) (S : Sta) (v : Stv) : Chg (fun y => y = g) w (stS w g S v) := by
  have hs : ∀ (u : World) (a : Nat) (x : Value), Chg (fun y => y = g) u (u.setCell ⟨g, a, none⟩ x) := fun u a x => Chg.set (F := fun y => y = g) u g a x rfl
  have ht : ∀ {a b c : World}, Chg (fun y => y = g) a b → Chg (fun y => y = g) b c → Chg (fun y => y = g) a c := fun h k => h.trans k (fun _ hx => .inl hx)
  exact ht (ht (ht (ht (ht (ht (hs _ _ _) (hs _ _ _)) (hs _ _ _)) (hs _ _ _)) (hs _ _ _)) (hs _ _ _)) (hs _ _ _)
theorem set7_0 {w : World} {g : Nat} {c0 c1 c2 c3 c4 c5 c6 : Value} {t : TypeId} (h : w.heap[g]? = some (.cells #[c0, c1, c2, c3, c4, c5, c6] t (0, 0))) (v : Value) : (w.setCell ⟨g, 0, none⟩ v).heap[g]? = some (.cells #[v, c1, c2, c3, c4, c5, c6] t (0, 0)) := set_heap _ _ _ _ _ _ h
theorem set7_1 {w : World} {g : Nat} {c0 c1 c2 c3 c4 c5 c6 : Value} {t : TypeId} (h : w.heap[g]? = some (.cells #[c0, c1, c2, c3, c4, c5, c6] t (0, 0))) (v : Value) : (w.setCell ⟨g, 1, none⟩ v).heap[g]? = some (.cells #[c0, v, c2, c3, c4, c5, c6] t (0, 0)) := set_heap _ _ _ _ _ _ h
theorem set7_2 {w : World} {g : Nat} {c0 c1 c2 c3 c4 c5 c6 : Value} {t : TypeId} (h : w.heap[g]? = some (.cells #[c0, c1, c2, c3, c4, c5, c6] t (0, 0))) (v : Value) : (w.setCell ⟨g, 2, none⟩ v).heap[g]? = some (.cells #[c0, c1, v, c3, c4, c5, c6] t (0, 0)) := set_heap _ _ _ _ _ _ h
theorem set7_3 {w : World} {g : Nat} {c0 c1 c2 c3 c4 c5 c6 : Value} {t : TypeId} (h : w.heap[g]? = some (.cells #[c0, c1, c2, c3, c4, c5, c6] t (0, 0))) (v : Value) : (w.setCell ⟨g, 3, none⟩ v).heap[g]? = some (.cells #[c0, c1, c2, v, c4, c5, c6] t (0, 0)) := set_heap _ _ _ _ _ _ h
theorem set7_4 {w : World} {g : Nat} {c0 c1 c2 c3 c4 c5 c6 : Value} {t : TypeId} (h : w.heap[g]? = some (.cells #[c0, c1, c2, c3, c4, c5, c6] t (0, 0))) (v : Value) : (w.setCell ⟨g, 4, none⟩ v).heap[g]? = some (.cells #[c0, c1, c2, c3, v, c5, c6] t (0, 0)) := set_heap _ _ _ _ _ _ h
theorem set7_5 {w : World} {g : Nat} {c0 c1 c2 c3 c4 c5 c6 : Value} {t : TypeId} (h : w.heap[g]? = some (.cells #[c0, c1, c2, c3, c4, c5, c6] t (0, 0))) (v : Value) : (w.setCell ⟨g, 5, none⟩ v).heap[g]? = some (.cells #[c0, c1, c2, c3, c4, v, c6] t (0, 0)) := set_heap _ _ _ _ _ _ h
theorem set7_6 {w : World} {g : Nat} {c0 c1 c2 c3 c4 c5 c6 : Value} {t : TypeId} (h : w.heap[g]? = some (.cells #[c0, c1, c2, c3, c4, c5, c6] t (0, 0))) (v : Value) : (w.setCell ⟨g, 6, none⟩ v).heap[g]? = some (.cells #[c0, c1, c2, c3, c4, c5, v] t (0, 0)) := set_heap _ _ _ _ _ _ h
theorem stS_box {w : World} {g : Nat} {T : Sta} {u : Stv} (h : w.heap[g]? = some (bSta T u)) (S : Sta) (v : Stv) : (stS w g S v).heap[g]? = some (bSta S v) :=
  set7_6 (set7_5 (set7_4 (set7_3 (set7_2 (set7_1 (set7_0 h _) _) _) _) _) _) _
theorem Snap.store {w : World} {gs gt : Nat} {S T : Sta} {v u : Stv} {Fp : Nat → Prop} (h : Snap w gs S v Fp) (k : Snap w gt T u Fp) (hb : ∀ g, Blg T u g → g ≠ gs) : Snap (stS w gs T u) gs T u Fp :=
  have hch := stS_chg w gs T u
  ⟨stS_box h.box T u, sta_keep k.sta hch.size (fun g hg => hch.block g (k.blk g hg).1 (hb g hg)), fun g hg => ⟨Nat.lt_of_lt_of_le (k.blk g hg).1 hch.size, (k.blk g hg).2.1, hb g hg⟩, h.dgs⟩
theorem GameAt.store {w w' : World} {gg gp : Nat} {S : Sta} {X : Aux} {Fp : Nat → Prop} {A B : Int × List Pl} {ao : Option Addr} {ac : Nat} {bo : Option Addr} {bc : Nat} {gs : Nat} (h : GameAt w gg gp S X Fp A B ao ac bo bc) (hch : Chg (fun y => y = gs) w w') (hg : gg ≠ gs) (hF : ¬ Fp gs) (ha : ∀ g, (Value.slice ao A.2.length ac).ownBlock = some g → g ≠ gs) (hb : ∀ g, (Value.slice bo B.2.length bc).ownBlock = some g → g ≠ gs) : GameAt w' gg gp S X Fp A B ao ac bo bc :=
  ⟨(hch.block gg h.lt hg).trans h.box, h.desk.keep hch (fun x hx e => hF (by rw [← show x = gs from e]; exact hx)), grow_keep h.a hch.size (fun g hgb => hch.block g (h.la g hgb).1 (ha g hgb)), grow_keep h.b hch.size (fun g hgb => hch.block g (h.lb g hgb).1 (hb g hgb)), fun g hgb => ⟨Nat.lt_of_lt_of_le (h.la g hgb).1 hch.size, (h.la g hgb).2⟩, fun g hgb => ⟨Nat.lt_of_lt_of_le (h.lb g hgb).1 hch.size, (h.lb g hgb).2⟩, h.dg⟩
theorem FairL.of {S T : Sta} {k A : Int} (h : FairF S T k A) : ∃ ex, FairL S.wts T.wts T.srv k A ex := by
  obtain ⟨ex, h1, h2⟩ := h.ex
  exact ⟨ex, h1, h2, fun i w hi hs => (h.gone i w hi hs).2⟩
theorem gplayL (gg gp : Nat) (S : Sta) (X : Aux) (Fp : Nat → Prop) (A B : Int × List Pl) (ao : Option Addr) (ac : Nat) (bo : Option Addr) (bc : Nat) (w : World) (kd a p : Int) (h : GameAt w gg gp S X Fp A B ao ac bo bc) (hg : Good S X.op) (hp1 : pot (S, X.op) + 1 ≤ 549755813888) (hpl : S.pools.length ≤ 1000) (hA : A.2.length ≤ 100) (hB : B.2.length ≤ 100) (hp : I64 p) (hk : kd ≤ 4) :
    Calls Tryz.prog 11 #[.pointer (some ⟨gg, 0, none⟩), .agg #[.int .i64 kd, .int .i64 a, .int .i64 p]] w fun e w' => ∃ S' X' n er ex, GPlay S' X' n er gg gp Fp A B ao ac bo bc w w' e ∧ Good S' X'.op ∧ FairL S.wts S'.wts S'.srv kd a ex ∧ pot (S', X'.op) ≤ pot (S, X.op) + 1 ∧ Rest S S' := by
  have hok : Ok S X.op := ⟨hg.fine.inv, by omega, by omega⟩
  by_cases h1 : kd = 1
  · subst h1
    refine (gplay1 gg gp S X Fp A B ao ac bo bc w a p h hok hp1 hA hB hp).mono fun e w' hx => ?_
    obtain ⟨g1, g2⟩ := good_ask hg a (gNm A.2 B.2 p)
    obtain ⟨ex, g3⟩ := FairL.of g2
    exact ⟨_, _, _, _, ex, hx, g1, g3, ask_pot S X.op a _⟩
  · by_cases h2 : kd = 2
    · subst h2
      refine (gplay2 gg gp S X Fp A B ao ac bo bc w a p h hok hp1 hA hB).mono fun e w' hx => ?_
      obtain ⟨g1, g2⟩ := good_done hg a 2 a
      obtain ⟨ex, g3⟩ := FairL.of g2
      exact ⟨_, _, _, _, ex, hx, g1, g3, done_pot S X.op a⟩
    · by_cases h3 : kd = 3
      · subst h3
        refine (gplay3 gg gp S X Fp A B ao ac bo bc w a p h hok hp1 hA hB).mono fun e w' hx => ?_
        obtain ⟨g1, g2⟩ := good_leave hg a
        obtain ⟨ex, g3⟩ := FairL.of g2
        exact ⟨_, _, _, _, ex, hx, g1, g3, leave_pot S X.op a⟩
      · by_cases h4 : kd = 4
        · subst h4
          refine (gplay4 gg gp S X Fp A B ao ac bo bc w a p h hok hp1 hA hB).mono fun e w' hx => ?_
          obtain ⟨g1, g2⟩ := good_crash hg a 4 a
          obtain ⟨ex, g3⟩ := FairL.of g2
          exact ⟨_, _, _, _, ex, hx, g1, g3, crash_pot S X.op a⟩
        · refine (gplay0 gg gp S X Fp A B ao ac bo bc w kd a p h (by omega)).mono fun e w' hx => ?_
          obtain ⟨ex, g3⟩ := FairL.of (FairF.refl hg.fine.inv kd a)
          exact ⟨_, _, _, _, ex, hx, hg, g3, by omega, Rest.refl _⟩
theorem fits_of {S : Sta} {op : Int} {k : Nat} (h : Good S op) (hp : pot (S, op) ≤ 2 + k) (hk : k ≤ 1073741824) (hpl : S.pools.length ≤ 1000) (hs : S.plan.length ≤ 1000) : Fits S ∧ pot (S, op) + 1 ≤ 549755813888 ∧ S.srv.length ≤ 1099511627776 ∧ S.wts.length ≤ 1099511627776 := by
  have h1 := h.fine.inv.len
  have h2 := h.fine.inv.op0
  unfold Lw.pot at hp ⊢
  simp only at hp ⊢
  exact ⟨⟨by omega, by omega, by omega, by omega⟩, by omega, by omega, by omega⟩
structure Opk where
  k : Int
  a : Int
  b : Int
def fOk (x : Opk) : List Value := [.int .i64 x.k, .int .i64 x.a, .int .i64 x.b]
def flatK (l : List Opk) : List Value := l.flatMap fOk
theorem opk_at {w : World} {ao : Option Addr} {n m cap : Nat} {l : List Opk} (h : RowAt w (.slice ao n cap) m (flatK l)) {i : Nat} {x : Opk} (hi : l[i]? = some x) :
    ∃ b off, ao = some ⟨b, off, none⟩ ∧ b < w.heap.size ∧ w.cell? ⟨b, off + i * 3, none⟩ = some (.int .i64 x.k) ∧ w.cell? ⟨b, off + i * 3 + 1, none⟩ = some (.int .i64 x.a) ∧ w.cell? ⟨b, off + i * 3 + 2, none⟩ = some (.int .i64 x.b) := by
  obtain ⟨b, off, e, hb, g⟩ := row_get (f := fOk) (k := 3) (fun _ => rfl) h hi (by omega)
  exact ⟨b, off, e, hb, g 0 _ rfl, g 1 _ rfl, g 2 _ rfl⟩
end Lw
end Go.Proofs.YtohbonfngeblkaaGreat
namespace Go.Proofs.YtohbonfngeblkaaGreat
namespace Co
open Go.ChangeShapes Go.WideShapes Go.ChangeAt Go.RowKit Go.Joins
theorem cellsTab : Tryz.prog.cellsOf 24 = 2 := by kernel_rfl
theorem cellsPool : Tryz.prog.cellsOf 75 = 4 := by kernel_rfl
theorem cellsInt : Tryz.prog.cellsOf 3 = 1 := by kernel_rfl
theorem cellsStr : Tryz.prog.cellsOf 9 = 1 := by kernel_rfl
theorem wf_i64 {n : Int} (h : (Lit.int .i64 n).wf = true) : I64 n := by
  have h' : (decide (IntKind.i64.min ≤ n) && decide (n ≤ IntKind.i64.max)) = true := h
  simp [IntKind.min, IntKind.max, IntKind.signed, IntKind.bits] at h'
  exact h'
section
variable {H : Type} {enc : TypeId × Value → H} {W : World}
theorem flat_cells (W : World) (bl : Nat) : ∀ (off : Nat) (ps : List Pl), (∀ (i : Nat) (p : Pl), ps[i]? = some p → W.cell? ⟨bl, off + i * 4, none⟩ = some (.string p.nm) ∧ W.cell? ⟨bl, off + i * 4 + 1, none⟩ = some (.int .i64 p.sz) ∧ W.cell? ⟨bl, off + i * 4 + 2, none⟩ = some (.int .i64 p.wt) ∧ W.cell? ⟨bl, off + i * 4 + 3, none⟩ = some (.int .i64 p.fr)) →
    ∀ (j : Nat) (x : Value), (flatP ps)[j]? = some x → W.cell? ⟨bl, off + j, none⟩ = some x
  | off, [], _, j, x, h => by simp [flatP] at h
  | off, q :: r, hp, j, x, h => by
    have h0 := hp 0 q rfl
    match j, h with
    | 0, h => simp only [flatP, List.getElem?_cons_zero, Option.some.injEq] at h; subst h; simpa using h0.1
    | 1, h => simp only [flatP, List.getElem?_cons_succ, List.getElem?_cons_zero, Option.some.injEq] at h; subst h; simpa using h0.2.1
    | 2, h => simp only [flatP, List.getElem?_cons_succ, List.getElem?_cons_zero, Option.some.injEq] at h; subst h; simpa using h0.2.2.1
    | 3, h => simp only [flatP, List.getElem?_cons_succ, List.getElem?_cons_zero, Option.some.injEq] at h; subst h; simpa using h0.2.2.2
    | j + 4, h =>
      simp only [flatP, List.getElem?_cons_succ] at h
      have ih := flat_cells W bl (off + 4) r (fun i p hi => by
        have := hp (i + 1) p (by simpa using hi)
        have e : off + (i + 1) * 4 = off + 4 + i * 4 := by omega
        rw [e] at this
        exact this) j x h
      rw [show off + (j + 4) = off + 4 + j by omega]
      exact ih
theorem kfour {α : Type} (l : List α) (h : l.length = 4) : ∃ a b c d, l = [a, b, c, d] := by
  match l, h with
  | [a, b, c, d], _ => exact ⟨a, b, c, d, rfl⟩
theorem kelem_pool {n : Nat} {cs : List Value} {y : DataW H × List MemPlace} (h : DataW.trod enc Tryz.prog W 0 (fun _ => true) true n 75 cs = some y) :
    ∃ p : Pl, cs = [.string p.nm, .int .i64 p.sz, .int .i64 p.wt, .int .i64 p.fr] ∧ I64 p.sz ∧ I64 p.wt ∧ I64 p.fr := by
  obtain ⟨xs, m, _, _, hl, hx, hf⟩ := DataW.trod_struct Tryz.underlying75 h
  rw [cellsPool] at hl
  obtain ⟨c0, c1, c2, c3, rfl⟩ := kfour cs hl
  obtain ⟨x0, x1, x2, x3, rfl⟩ := kfour xs hx
  have f0 : DataW.trod enc Tryz.prog W 0 (fun _ => true) true m 9 [c0] = some x0 := by
    have := hf 0 _ rfl
    simpa [cellsStr] using this
  have f1 : DataW.trod enc Tryz.prog W 0 (fun _ => true) true m 3 [c1] = some x1 := by
    have := hf 1 _ rfl
    simpa [cellsInt] using this
  have f2 : DataW.trod enc Tryz.prog W 0 (fun _ => true) true m 3 [c2] = some x2 := by
    have := hf 2 _ rfl
    simpa [cellsInt] using this
  have f3 : DataW.trod enc Tryz.prog W 0 (fun _ => true) true m 3 [c3] = some x3 := by
    have := hf 3 _ rfl
    simpa [cellsInt] using this
  obtain ⟨s, e0, _, _⟩ := DataW.trod_string Tryz.underlying9 f0
  obtain ⟨a, e1, _, r1⟩ := DataW.trod_int Tryz.underlying3 f1
  obtain ⟨b, e2, _, r2⟩ := DataW.trod_int Tryz.underlying3 f2
  obtain ⟨c, e3, _, r3⟩ := DataW.trod_int Tryz.underlying3 f3
  simp only [List.cons.injEq, and_true] at e0 e1 e2 e3
  subst e0 e1 e2 e3
  exact ⟨⟨s, a, b, c⟩, rfl, wf_i64 r1, wf_i64 r2, wf_i64 r3⟩
set_option maxRecDepth 100000 in
theorem kopen_table {b0 : Nat} {v : Value} {d : DataW H} {p : List MemPlace} (hval : Value.okWide Tryz.prog W .any b0 24 v) (h : DataW.Trod enc Tryz.prog W 0 (fun _ => true) true 24 v d p) :
    ∃ (b : Int) (ao : Option Addr) (n c : Nat) (ps : List Pl), v = .agg #[.int .i64 b, .slice ao n c] ∧ RowAt W (.slice ao n c) n (flatP ps) ∧ ps.length = n ∧ n ≤ maxLen ∧ I64 b ∧ ∀ x ∈ ps, I64 x.sz ∧ I64 x.wt ∧ I64 x.fr := by
  obtain ⟨c0, c1, y0, y1, m, rfl, rfl, _, hy0, hy1⟩ := open_agg2 Tryz.underlying24 (by kernel_rfl) cellsTab hval h
  obtain ⟨b, e0, hx0, rb⟩ := DataW.trod_int Tryz.underlying3 hy0
  simp only [List.cons.injEq, and_true] at e0
  subst e0
  rcases Deep.open_slice Tryz.underlying22 hy1 with ⟨h1, _⟩ | ⟨a, len, cap, mm, k, D, Pm, h1, _, hl, hm, hmm, hx, hc⟩
  · simp only [List.cons.injEq, and_true] at h1
    subst h1
    exact ⟨b, none, 0, 0, [], rfl, row_nil _ _ _, rfl, Nat.zero_le _, wf_i64 rb, by simp⟩
  · simp only [List.cons.injEq, and_true] at h1
    subst h1
    simp only [if_true] at hmm
    subst hmm
    rw [cellsPool] at hc
    have hex : ∀ i, i < len → ∃ p : Pl, W.cell? (a.add (i * 4)) = some (.string p.nm) ∧ W.cell? ((a.add (i * 4)).add 1) = some (.int .i64 p.sz) ∧ W.cell? ((a.add (i * 4)).add 2) = some (.int .i64 p.wt) ∧ W.cell? ((a.add (i * 4)).add 3) = some (.int .i64 p.fr) ∧ I64 p.sz ∧ I64 p.wt ∧ I64 p.fr := by
      intro i hi
      obtain ⟨cs', h1, h2⟩ := hc i (by omega)
      obtain ⟨p, rfl, hs⟩ := kelem_pool h2
      obtain ⟨_, _, h3⟩ := World.cells?_some h1
      have g0 := h3 0 (by omega)
      have g1 := h3 1 (by omega)
      have g2 := h3 2 (by omega)
      have g3 := h3 3 (by omega)
      simp only [List.getElem?_cons_zero, List.getElem?_cons_succ] at g0 g1 g2 g3
      refine ⟨p, ?_, g1, g2, g3, hs⟩
      simpa [Addr.add] using g0
    have : Inhabited Pl := ⟨⟨⟨#[]⟩, 0, 0, 0⟩⟩
    obtain ⟨f, hf⟩ := Deep.choose_lt hex
    refine ⟨b, some a, len, mm, (List.range len).map f, rfl, ⟨_, _, rfl, hl, ?_⟩, by simp, Nat.le_trans hl hm, wf_i64 rb, ?_⟩
    · by_cases h0 : len = 0
      · subst h0; exact .inl rfl
      · obtain ⟨bl, off, spot⟩ := a
        have z0 := (hf 0 (by omega)).1
        have hspot : spot = none := by simpa [Addr.add] using World.cell?_spot z0
        subst hspot
        refine .inr ⟨bl, off, rfl, ?_, ?_⟩
        · have hb := block_lt_of_cell z0
          simpa [Addr.add] using hb
        · refine flat_cells W bl off _ (fun i p hp => ?_)
          have hi : i < len := by
            have := (List.getElem?_eq_some_iff.1 hp).1
            simpa using this
          have hpe : f i = p := by
            rw [List.getElem?_map, List.getElem?_range hi] at hp
            simpa using hp
          have h5 := hf i hi
          rw [hpe] at h5
          simp only [add_plain] at h5
          exact ⟨h5.1, h5.2.1, h5.2.2.1, h5.2.2.2.1⟩
    · intro x hx
      obtain ⟨i, hi, rfl⟩ := List.mem_map.1 hx
      exact (hf i (List.mem_range.1 hi)).2.2.2.2
end
end Co
end Go.Proofs.YtohbonfngeblkaaGreat
namespace Go.Proofs.YtohbonfngeblkaaGreat
namespace Lw
open Go.ChangeShapes Go.WideShapes Go.ChangeAt Go.RowKit Go.ChangeMaps
open Co
theorem ownG : ownKnob Tryz.prog.godebug = none := by kernel_rfl
theorem laidOutG : laidOutB Tryz.prog = true := by kernel_rfl
theorem cellsOpk : Tryz.prog.cellsOf 39 = 3 := by kernel_rfl
section
variable {H : Type} {enc : TypeId × Value → H} {W : World}
theorem threeG {α : Type} (l : List α) (h : l.length = 3) : ∃ a b c, l = [a, b, c] := by
  match l, h with
  | [a, b, c], _ => exact ⟨a, b, c, rfl⟩
theorem elem_opk {n : Nat} {cs : List Value} {y : DataW H × List MemPlace} (h : DataW.trod enc Tryz.prog W 0 (fun _ => true) true n 39 cs = some y) :
    ∃ x : Opk, cs = [.int .i64 x.k, .int .i64 x.a, .int .i64 x.b] ∧ I64 x.k ∧ I64 x.a ∧ I64 x.b := by
  obtain ⟨xs, m, _, _, hl, hx, hf⟩ := DataW.trod_struct Tryz.underlying39 h
  rw [cellsOpk] at hl
  obtain ⟨c0, c1, c2, rfl⟩ := threeG cs hl
  obtain ⟨x0, x1, x2, rfl⟩ := threeG xs hx
  have f0 : DataW.trod enc Tryz.prog W 0 (fun _ => true) true m 3 [c0] = some x0 := by
    have := hf 0 _ rfl
    simpa [cellsInt] using this
  have f1 : DataW.trod enc Tryz.prog W 0 (fun _ => true) true m 3 [c1] = some x1 := by
    have := hf 1 _ rfl
    simpa [cellsInt] using this
  have f2 : DataW.trod enc Tryz.prog W 0 (fun _ => true) true m 3 [c2] = some x2 := by
    have := hf 2 _ rfl
    simpa [cellsInt] using this
  obtain ⟨a, e1, _, r1⟩ := DataW.trod_int Tryz.underlying3 f0
  obtain ⟨b, e2, _, r2⟩ := DataW.trod_int Tryz.underlying3 f1
  obtain ⟨c, e3, _, r3⟩ := DataW.trod_int Tryz.underlying3 f2
  simp only [List.cons.injEq, and_true] at e1 e2 e3
  subst e1 e2 e3
  exact ⟨⟨a, b, c⟩, rfl, wf_i64 r1, wf_i64 r2, wf_i64 r3⟩
set_option maxRecDepth 100000 in
theorem open_opks {b0 : Nat} {v : Value} {d : DataW H} {p : List MemPlace} (hval : Value.okWide Tryz.prog W .any b0 25 v) (h : DataW.Trod enc Tryz.prog W 0 (fun _ => true) true 25 v d p) :
    ∃ (ao : Option Addr) (n c : Nat) (os : List Opk), v = .slice ao n c ∧ RowAt W (.slice ao n c) n (flatK os) ∧ os.length = n ∧ (∀ x ∈ os, I64 x.k ∧ I64 x.a ∧ I64 x.b) ∧ (n = 0 ∨ ∃ e sp, d = .slice e sp ∧ e.length = n) := by
  obtain ⟨ao, n, c, rfl⟩ := okWide_slice Tryz.underlying25 hval
  obtain ⟨fuel, hf⟩ := h
  rcases Deep.open_slice Tryz.underlying25 hf with ⟨h1, _⟩ | ⟨a, len, cap, mm, k, D, Pm, h1, _, hl, hm, hmm, hx, hc⟩
  · have h2 : Value.slice ao n c = .slice none 0 0 := by simpa [Value.cells] using h1
    obtain ⟨rfl, rfl, rfl⟩ : ao = none ∧ n = 0 ∧ c = 0 := by simpa using h2
    exact ⟨none, 0, 0, [], rfl, row_nil _ _ _, rfl, by simp, .inl rfl⟩
  · have h2 : Value.slice ao n c = .slice (some a) len cap := by simpa [Value.cells] using h1
    obtain ⟨rfl, rfl, rfl⟩ : ao = some a ∧ n = len ∧ c = cap := by simpa using h2
    simp only [if_true] at hmm
    subst hmm
    rw [cellsOpk] at hc
    have hex : ∀ i, i < n → ∃ x : Opk, W.cell? (a.add (i * 3)) = some (.int .i64 x.k) ∧ W.cell? ((a.add (i * 3)).add 1) = some (.int .i64 x.a) ∧ W.cell? ((a.add (i * 3)).add 2) = some (.int .i64 x.b) ∧ I64 x.k ∧ I64 x.a ∧ I64 x.b := by
      intro i hi
      obtain ⟨cs', h1, h2⟩ := hc i (by omega)
      obtain ⟨x, rfl, hI⟩ := elem_opk h2
      obtain ⟨_, _, h3⟩ := World.cells?_some h1
      have g0 := h3 0 (by omega)
      have g1 := h3 1 (by omega)
      have g2 := h3 2 (by omega)
      simp only [List.getElem?_cons_zero, List.getElem?_cons_succ] at g0 g1 g2
      refine ⟨x, ?_, g1, g2, hI⟩
      simpa [Addr.add] using g0
    have : Inhabited Opk := ⟨⟨0, 0, 0⟩⟩
    obtain ⟨f, hf⟩ := Deep.choose_lt hex
    refine ⟨some a, n, mm, (List.range n).map f, rfl, ?_, by simp, ?_, .inr ⟨(List.range n).map D, (List.range (mm - n)).map fun j => D (n + j), ?_, by simp⟩⟩
    · refine ⟨some a, mm, rfl, hl, ?_⟩
      by_cases h0 : n = 0
      · subst h0
        exact .inl (by simp [flatK])
      · obtain ⟨bl, off, spot⟩ := a
        have z0 := (hf 0 (by omega)).1
        have hspot : spot = none := by simpa [Addr.add] using World.cell?_spot z0
        subst hspot
        refine .inr ⟨bl, off, rfl, ?_, fun j x hx => ?_⟩
        · have hb := block_lt_of_cell z0
          simpa [Addr.add] using hb
        · have hj : j < n * 3 := by
            have := (List.getElem?_eq_some_iff.1 hx).1
            rw [flatK, fm_len fOk 3 (fun _ => rfl)] at this
            simpa using this
          have hi : j / 3 < n := by omega
          have hx2 := fm_at fOk 3 (fun _ => rfl) ((List.range n).map f) (j / 3) (f (j / 3)) (by rw [List.getElem?_map, List.getElem?_range hi]; rfl) (j % 3) (by omega)
          have hje : j / 3 * 3 + j % 3 = j := by omega
          rw [hje] at hx2
          have hx3 : (fOk (f (j / 3)))[j % 3]? = some x := hx2.symm.trans hx
          obtain ⟨z0, z1, z2, _⟩ := hf (j / 3) hi
          simp only [add_plain] at z0 z1 z2
          have h4 : j % 3 = 0 ∨ j % 3 = 1 ∨ j % 3 = 2 := by omega
          rcases h4 with h4 | h4 | h4 <;> rw [h4] at hx3 <;> simp [fOk] at hx3 <;> subst hx3
          · have : off + j = off + j / 3 * 3 := by omega
            rw [this]; exact z0
          · have : off + j = off + j / 3 * 3 + 1 := by omega
            rw [this]; exact z1
          · have : off + j = off + j / 3 * 3 + 2 := by omega
            rw [this]; exact z2
    · intro x hx
      obtain ⟨i, hi, rfl⟩ := List.mem_map.1 hx
      exact (hf i (List.mem_range.1 hi)).2.2.2
    · have := congrArg Prod.fst hx
      exact this
theorem gbulk_len (l : List (DataW H)) : l.length ≤ Rows.uptoBulkAll l := by
  induction l with
  | nil => simp [Rows.uptoBulkAll]
  | cons x r ih =>
    have : 1 ≤ Rows.uptoBulk x := by
      cases x with
      | lit l => cases l <;> simp [Rows.uptoBulk]
      | nil => simp [Rows.uptoBulk]
      | ptr d => simp [Rows.uptoBulk]
      | slice elems spare => simp [Rows.uptoBulk]
      | agg parts => simp [Rows.uptoBulk]
      | iface t d => simp [Rows.uptoBulk]
      | map entries => simp [Rows.uptoBulk]
      | held h => simp [Rows.uptoBulk]
    simp only [Rows.uptoBulkAll, List.length_cons]
    omega
theorem gbulk_mem {l : List (DataW H)} {d : DataW H} (hd : d ∈ l) {n : Nat} (h : n = 0 ∨ ∃ e sp, d = .slice e sp ∧ e.length = n) (hb : Rows.uptoBulkAll l ≤ 1048576) : n ≤ 1048576 := by
  rcases h with h | ⟨e, sp, rfl, he⟩
  · omega
  · induction l with
    | nil => simp at hd
    | cons x r ih =>
      simp only [Rows.uptoBulkAll] at hb
      rcases List.mem_cons.1 hd with rfl | hd
      · simp only [Rows.uptoBulk] at hb
        have := gbulk_len e
        omega
      · exact ih (by omega) hd
end
end Lw
end Go.Proofs.YtohbonfngeblkaaGreat
