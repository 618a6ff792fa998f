
import Derived.Test.YtphkgbbfkibfbaaLwA
namespace Go.Proofs.Ytphkgbbfkibfbaa
open Go.RowKit
namespace Lw
open Co

/-- a state's value and its lists -/
structure Sta where
  bud : Int
  pools : List Pl
  srv : List Srv
  wts : List Wtr
  plan : List Stp
  begun : Bool
  back : Bool
structure Stv where
  po : Option Addr
  pc : Nat
  so : Option Addr
  sc : Nat
  wo : Option Addr
  wc : Nat
  to : Option Addr
  tc : Nat
abbrev staA (S : Sta) (v : Stv) : Value := .agg #[.int .i64 S.bud, .slice v.po S.pools.length v.pc, .slice v.so S.srv.length v.sc, .slice v.wo S.wts.length v.wc, .slice v.to S.plan.length v.tc, .bool S.begun, .bool S.back]
/-- the lists lie there -/
structure StaAt (w : World) (S : Sta) (v : Stv) : Prop where
  p : RowAt w (.slice v.po S.pools.length v.pc) S.pools.length (flatP S.pools)
  s : RowAt w (.slice v.so S.srv.length v.sc) S.srv.length (flatV S.srv)
  t : RowAt w (.slice v.wo S.wts.length v.wc) S.wts.length (flatW S.wts)
  l : RowAt w (.slice v.to S.plan.length v.tc) S.plan.length (flatT S.plan)
theorem StaAt.nx {w w' : World} {S : Sta} {v : Stv} (h : StaAt w S v) (hb : Below w.heap.size w w') : StaAt w' S v := ⟨h.p.nx hb, h.s.nx hb, h.t.nx hb, h.l.nx hb⟩
/-- the lists are not too long -/
structure Small (S : Sta) : Prop where
  p : S.pools.length ≤ maxLen
  s : S.srv.length ≤ maxLen
  t : S.wts.length ≤ maxLen
  l : S.plan.length ≤ maxLen
theorem blk7 {W w3 : World} {B : Nat} (hb : Below B W w3) {g : Nat} (hg : g < B) {c0 c1 c2 c3 c4 c5 c6 : Value} {t : TypeId} (h : W.heap[g]? = some (.cells #[c0, c1, c2, c3, c4, c5, c6] t (0, 0))) :
    w3.cell? ⟨g, 0, none⟩ = some c0 ∧ w3.cell? ⟨g, 1, none⟩ = some c1 ∧ w3.cell? ⟨g, 2, none⟩ = some c2 ∧ w3.cell? ⟨g, 3, none⟩ = some c3 ∧ w3.cell? ⟨g, 4, none⟩ = some c4 ∧ w3.cell? ⟨g, 5, none⟩ = some c5 ∧ w3.cell? ⟨g, 6, none⟩ = some c6 := by
  have h' : w3.heap[g]? = some (.cells #[c0, c1, c2, c3, c4, c5, c6] t (0, 0)) := (hb.block g hg).trans h
  refine ⟨?_, ?_, ?_, ?_, ?_, ?_, ?_⟩ <;> simp [World.cell?, h']

end Lw
end Go.Proofs.Ytphkgbbfkibfbaa
