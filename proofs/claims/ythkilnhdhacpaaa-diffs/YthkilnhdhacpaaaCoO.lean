
import Derived.Test.YthkilnhdhacpaaaCoN
namespace Go.Proofs.Ythkilnhdhacpaaa
open Go.RowKit
namespace Co

theorem own_mono {w : World} {B B' : Nat} {e : TypeId} {size : Nat} {v : Value} {n : Nat} {xs : List Value} (h : w.ownsRow B' e size v n xs) (hB : B ≤ B') : w.ownsRow B e size v n xs := by
  obtain ⟨hl, h⟩ := h
  refine ⟨hl, ?_⟩
  rcases h with h | ⟨g, cap, cur, h1, h2, h3⟩
  · exact .inl h
  · exact .inr ⟨g, cap, cur, h1, Nat.le_trans hB h2, h3⟩
abbrev bPl (p : Pl) : Obj := .cells #[.string p.nm, .int .i64 p.sz, .int .i64 p.wt, .int .i64 p.fr] 46

end Co
end Go.Proofs.Ythkilnhdhacpaaa
