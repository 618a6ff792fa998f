
import Derived.Test.YthkilnhdhacpaaaLwG
import Derived.Laws.AppendOwnNone
namespace Go.Proofs.Ythkilnhdhacpaaa
open Go.RowKit
namespace Lw
open Co

/-- 'append(l, xs...)' where xs is a row, nil or not -/
theorem appendG {w : World} {ops : Array Oper} {rest : List Oper} {o : Oper} {a : Act} {Q : Exit → Act → World → Prop} (ty tyl : TypeId) (sz bytes : Nat) (z : Value) (hinfo : (Try.prog.info? ty).map (fun i => (i.zero, i.size, i.bytes)) = some (some z, sz, bytes)) (hund : Try.prog.underlying tyl = some (.slice ty)) (hzs : z.cells.size = sz) (hsz : 0 < sz) (hby : bytes ≤ 64)
    (hgd : o.guard = none) (s x : Operand) (ho : o.op = .call { callee := .builtin .append, args := #[s, x], argTypes := #[tyl, tyl] }) (base : Nat)
    (v : Value) (n : Nat) (xs : List Value) (hs : a.eval s = v) (hown : w.ownsRow base ty sz v n xs)
    (so : Option Addr) (m c : Nat) (news : List Value) (hx : a.eval x = .slice so m c) (hnl : news.length = m * sz) (hrow : RowAt w (.slice so m c) m news) (hone : ∀ u ∈ news, u.oneCell' = true) (hnil : so = none → c = 0)
    (h6 : n + m ≤ 1099511627776) (hbase : base ≤ w.heap.size)
    (h : ∀ v' w', w'.ownsRow base ty sz v' (n + m) (xs ++ news) → Below base w w' → wpList Try.prog ops Q rest (a.put o.dst v') w') : wpList Try.prog ops Q (o :: rest) a w := by
  obtain ⟨t0, hi, hz0, hz1, hz2⟩ := info_parts hinfo
  cases so with
  | none =>
    have hm : m = 0 := by
      obtain ⟨ao', c', e, _, hh⟩ := hrow
      rcases hh with hh | ⟨b, off, e', _⟩
      · rw [hh] at hnl
        have h0 : m * sz = 0 := by simpa using hnl.symm
        rcases Nat.mul_eq_zero.1 h0 with h | h
        · exact h
        · omega
      · simp only [Value.slice.injEq] at e
        rw [e'] at e
        simp at e
    subst hm
    have hc : c = 0 := hnil rfl
    subst hc
    obtain rfl : news = [] := List.length_eq_zero_iff.1 (by simpa using hnl)
    refine wpList_append_own_none hgd s x tyl ho base ty t0 sz hund hi v n xs hs hown hx ?_
    exact h v w (by simpa using hown) (Below.refl _ _)
  | some ad =>
    refine wpList_append_own _ hgd s x tyl ho base ty t0 z sz bytes hund hi hz0 hz1 hz2 hzs hsz v n xs hs hown ad m c news hx hnl ?_ hone (by unfold maxLen; omega) ?_ hbase ?_
    · intro j u hj
      obtain ⟨b, off, e, _, g⟩ := hrow.at hj
      obtain rfl : ad = ⟨b, off, none⟩ := by simpa using e
      rw [show (⟨b, off, none⟩ : Addr).add j = ⟨b, off + j, none⟩ by unfold Addr.add; split <;> simp_all]
      exact g
    · have : (n + m) * bytes ≤ 1099511627776 * 64 := Nat.mul_le_mul h6 hby
      omega
    · intro v' w' ho' hg _
      exact h v' w' ho' ((Below.refl _ _).grown hg hbase (fun g hg => (hown.lt g hg).1))
theorem info_P : (Try.prog.info? 46).map (fun i => (i.zero, i.size, i.bytes)) = some (some (.agg #[.string ⟨#[]⟩, .int .i64 0, .int .i64 0, .int .i64 0]), 4, 40) := by kernel_rfl
theorem info_V : (Try.prog.info? 49).map (fun i => (i.zero, i.size, i.bytes)) = some (some (.agg #[.int .i64 0, .string ⟨#[]⟩, .int .i64 0, .int .i64 0]), 4, 40) := by kernel_rfl
theorem info_W : (Try.prog.info? 52).map (fun i => (i.zero, i.size, i.bytes)) = some (some (.agg #[.int .i64 0, .string ⟨#[]⟩]), 2, 24) := by kernel_rfl
theorem flatP_len : ∀ l : List Pl, (flatP l).length = l.length * 4
  | [] => rfl
  | p :: r => by simp [flatP, flatP_len r]; omega
theorem flatP_one : ∀ (l : List Pl), ∀ u ∈ flatP l, u.oneCell' = true
  | [], u, h => by simp [flatP] at h
  | p :: r, u, h => by
    simp only [flatP, List.mem_cons] at h
    rcases h with rfl | rfl | rfl | rfl | h
    · rfl
    · rfl
    · rfl
    · rfl
    · exact flatP_one r u h
theorem flatV_len (l : List Srv) : (flatV l).length = l.length * 4 := fm_len fSv 4 (fun _ => rfl) l
theorem flatW_len (l : List Wtr) : (flatW l).length = l.length * 2 := fm_len fWt 2 (fun _ => rfl) l
theorem flatV_one (l : List Srv) : ∀ u ∈ flatV l, u.oneCell' = true := fm_one fSv (fun x u hu => by simp [fSv] at hu; rcases hu with rfl | rfl | rfl | rfl <;> rfl) l
theorem flatW_one (l : List Wtr) : ∀ u ∈ flatW l, u.oneCell' = true := fm_one fWt (fun x u hu => by simp [fWt] at hu; rcases hu with rfl | rfl <;> rfl) l
theorem own_nilc {w : World} {B : Nat} {e : TypeId} {size : Nat} {so : Option Addr} {n c : Nat} {xs : List Value} (h : w.ownsRow B e size (.slice so n c) n xs) : so = none → c = 0 := by
  rintro rfl
  rcases h.2 with ⟨e, _⟩ | ⟨g, cap, cur, e, _⟩
  · simp only [Value.slice.injEq] at e; exact e.2.2
  · simp at e

end Lw
end Go.Proofs.Ythkilnhdhacpaaa
