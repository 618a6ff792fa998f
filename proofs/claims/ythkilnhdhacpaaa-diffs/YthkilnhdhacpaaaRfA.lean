
import Derived.Test.YthkilnhdhacpaaaLwC
namespace Go.Proofs.Ythkilnhdhacpaaa
open Go.RowKit
namespace Lw
open Co

/-- the first place where p holds, or -1 -/
def optI : Option Nat → Int
  | none => -1
  | some i => (i : Int)
theorem find_hit {α : Type} {p : α → Bool} {l : List α} {k : Nat} {x : α} (hn : ∀ y ∈ l.take k, p y = false) (hx : l[k]? = some x) (hp : p x = true) : l.findIdx? p = some k := by
  obtain ⟨hk, e⟩ := List.getElem?_eq_some_iff.1 hx
  rw [List.findIdx?_eq_some_iff_getElem]
  refine ⟨hk, by rw [e]; exact hp, fun j hj => ?_⟩
  have : l[j]'(by omega) ∈ l.take k := by
    rw [List.mem_take_iff_getElem]
    exact ⟨j, by omega, rfl⟩
  rw [hn _ this]
  simp
theorem find_miss {α : Type} {p : α → Bool} {l : List α} (hn : ∀ y ∈ l, p y = false) : l.findIdx? p = none := by
  rw [List.findIdx?_eq_none_iff]
  exact hn
theorem take_next {α : Type} {p : α → Bool} {l : List α} {k : Nat} {x : α} (hn : ∀ y ∈ l.take k, p y = false) (hx : l[k]? = some x) (hp : p x = false) : ∀ y ∈ l.take (k + 1), p y = false := by
  obtain ⟨hk, e⟩ := List.getElem?_eq_some_iff.1 hx
  intro y hy
  rw [List.take_succ_eq_append_getElem hk, e] at hy
  rcases List.mem_append.1 hy with h | h
  · exact hn y h
  · simp at h; subst h; exact hp
def cntG {α : Type} (p : α → Bool) (l : List α) : Nat := (l.filter p).length
theorem cntG_next {α : Type} {p : α → Bool} {l : List α} {k : Nat} {x : α} (hx : l[k]? = some x) : cntG p (l.take (k + 1)) = cntG p (l.take k) + if p x = true then 1 else 0 := by
  obtain ⟨hk, e⟩ := List.getElem?_eq_some_iff.1 hx
  unfold cntG
  rw [List.take_succ_eq_append_getElem hk, List.filter_append, e, List.length_append]
  cases hp : p x <;> simp [hp]
def isPoolV (pool : ByteArray) (x : Srv) : Bool := x.pool.toList == pool.toList
def isPoolW (pool : ByteArray) (x : Wtr) : Bool := x.pool.toList == pool.toList
def isNameP (name : ByteArray) (x : Pl) : Bool := x.nm.toList == name.toList
def isCliV (c : Int) (x : Srv) : Bool := x.client == c
def isCliW (c : Int) (x : Wtr) : Bool := x.client == c
def isIdle (pool : ByteArray) (all : Bool) (x : Srv) : Bool := (x.client == 0) && (all || x.pool.toList == pool.toList)
/-- a world's value: a state, the next number, HOME -/
structure Hom where
  bud : Int
  len : Nat
  ho : Option Addr
  hc : Nat
abbrev wA (S : Sta) (v : Stv) (nx : Int) (h : Hom) : Value := .agg #[.int .i64 S.bud, .slice v.po S.pools.length v.pc, .slice v.so S.srv.length v.sc, .slice v.wo S.wts.length v.wc, .slice v.to S.plan.length v.tc, .bool S.begun, .bool S.back, .int .i64 nx, .int .i64 h.bud, .slice h.ho h.len h.hc]
end Lw
end Go.Proofs.Ythkilnhdhacpaaa
