
import Derived.Test.YthkilnhdhacpaaaCoJ
namespace Go.Proofs.Ythkilnhdhacpaaa
open Go.RowKit
namespace Co

/-- the place of the first line whose chain has more bases than most; 0: there is none -/
def longN (all : List (Ln × Value)) (most : Nat) : List (Ln × Value) → Nat
  | [] => 0
  | p :: r => if most < (chn all 7 p.1.frm).length then p.1.place else longN all most r

/-- the place of the first line whose base is not there; 0: all are -/
def noBase (all : List (Ln × Value)) : List (Ln × Value) → Option Nat
  | [] => none
  | p :: r => if baseB all p.1.frm = true then noBase all r else some p.1.place
def chainE (ls : List (Ln × Value)) : Nat × Nat :=
  match noBase ls ls with
  | some k => (6, k)
  | none => if 0 < longN ls 6 ls then (7, longN ls 6 ls) else if 0 < longN ls 3 ls then (8, longN ls 3 ls) else (0, 0)

theorem ret_ii {a b x y : Int} (h : a = b) (h2 : x = y) : Ending.returned (.tuple #[.int .i64 a, .int .i64 x]) = .returned (.tuple #[.int .i64 b, .int .i64 y]) := by rw [h, h2]

end Co
end Go.Proofs.Ythkilnhdhacpaaa
