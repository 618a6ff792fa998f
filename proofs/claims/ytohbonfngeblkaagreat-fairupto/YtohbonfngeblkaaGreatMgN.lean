import Derived.Test.YtohbonfngeblkaaGreatMgM
namespace Go.Proofs.YtohbonfngeblkaaGreat
open Go.RowKit
namespace Lw
open Co
structure Sta where
  bud : Int
  pools : List Pl
  srv : List Srv
  wts : List Wtr
  plan : List Stp
  begun : Bool
  back : Bool
structure Stv where
  po : Option Addr
  pc : Nat
  so : Option Addr
  sc : Nat
  wo : Option Addr
  wc : Nat
  to : Option Addr
  tc : Nat
abbrev staA (S : Sta) (v : Stv) : Value := .agg #[.int .i64 S.bud, .slice v.po S.pools.length v.pc, .slice v.so S.srv.length v.sc, .slice v.wo S.wts.length v.wc, .slice v.to S.plan.length v.tc, .bool S.begun, .bool S.back]
abbrev bSta (S : Sta) (v : Stv) : Obj := .cells #[.int .i64 S.bud, .slice v.po S.pools.length v.pc, .slice v.so S.srv.length v.sc, .slice v.wo S.wts.length v.wc, .slice v.to S.plan.length v.tc, .bool S.begun, .bool S.back] 33
structure StaAt (w : World) (S : Sta) (v : Stv) : Prop where
  p : RowAt w (.slice v.po S.pools.length v.pc) S.pools.length (flatP S.pools)
  s : RowAt w (.slice v.so S.srv.length v.sc) S.srv.length (flatV S.srv)
  t : RowAt w (.slice v.wo S.wts.length v.wc) S.wts.length (flatW S.wts)
  l : RowAt w (.slice v.to S.plan.length v.tc) S.plan.length (flatT S.plan)
theorem StaAt.nx {w w' : World} {S : Sta} {v : Stv} (h : StaAt w S v) (hb : Below w.heap.size w w') : StaAt w' S v := ⟨h.p.nx hb, h.s.nx hb, h.t.nx hb, h.l.nx hb⟩
structure Small (S : Sta) : Prop where
  p : S.pools.length ≤ maxLen
  s : S.srv.length ≤ maxLen
  t : S.wts.length ≤ maxLen
  l : S.plan.length ≤ maxLen
theorem blk7 {W w3 : World} {B : Nat} (hb : Below B W w3) {g : Nat} (hg : g < B) {c0 c1 c2 c3 c4 c5 c6 : Value} {t : TypeId} (h : W.heap[g]? = some (.cells #[c0, c1, c2, c3, c4, c5, c6] t (0, 0))) :
    w3.cell? ⟨g, 0, none⟩ = some c0 ∧ w3.cell? ⟨g, 1, none⟩ = some c1 ∧ w3.cell? ⟨g, 2, none⟩ = some c2 ∧ w3.cell? ⟨g, 3, none⟩ = some c3 ∧ w3.cell? ⟨g, 4, none⟩ = some c4 ∧ w3.cell? ⟨g, 5, none⟩ = some c5 ∧ w3.cell? ⟨g, 6, none⟩ = some c6 := by
  have h' : w3.heap[g]? = some (.cells #[c0, c1, c2, c3, c4, c5, c6] t (0, 0)) := (hb.block g hg).trans h
  refine ⟨?_, ?_, ?_, ?_, ?_, ?_, ?_⟩ <;> simp [World.cell?, h']
end Lw
end Go.Proofs.YtohbonfngeblkaaGreat
namespace Go.Proofs.YtohbonfngeblkaaGreat
open Go.RowKit
namespace Lw
open Co
end Lw
end Go.Proofs.YtohbonfngeblkaaGreat
namespace Go.Proofs.YtohbonfngeblkaaGreat
open Go.RowKit
namespace Lw
open Co
def optI : Option Nat → Int
  | none => -1
  | some i => (i : Int)
theorem find_hit {α : Type} {p : α → Bool} {l : List α} {k : Nat} {x : α} (hn : ∀ y ∈ l.take k, p y = false) (hx : l[k]? = some x) (hp : p x = true) : l.findIdx? p = some k := by
  obtain ⟨hk, e⟩ := List.getElem?_eq_some_iff.1 hx
  rw [List.findIdx?_eq_some_iff_getElem]
  refine ⟨hk, by rw [e]; exact hp, fun j hj => ?_⟩
  have : l[j]'(by omega) ∈ l.take k := by
    rw [List.mem_take_iff_getElem]
    exact ⟨j, by omega, rfl⟩
  rw [hn _ this]
  simp
theorem find_miss {α : Type} {p : α → Bool} {l : List α} (hn : ∀ y ∈ l, p y = false) : l.findIdx? p = none := by
  rw [List.findIdx?_eq_none_iff]
  exact hn
theorem take_next {α : Type} {p : α → Bool} {l : List α} {k : Nat} {x : α} (hn : ∀ y ∈ l.take k, p y = false) (hx : l[k]? = some x) (hp : p x = false) : ∀ y ∈ l.take (k + 1), p y = false := by
  obtain ⟨hk, e⟩ := List.getElem?_eq_some_iff.1 hx
  intro y hy
  rw [List.take_succ_eq_append_getElem hk, e] at hy
  rcases List.mem_append.1 hy with h | h
  · exact hn y h
  · simp at h; subst h; exact hp
def cntG {α : Type} (p : α → Bool) (l : List α) : Nat := (l.filter p).length
theorem cntG_next {α : Type} {p : α → Bool} {l : List α} {k : Nat} {x : α} (hx : l[k]? = some x) : cntG p (l.take (k + 1)) = cntG p (l.take k) + if p x = true then 1 else 0 := by
  obtain ⟨hk, e⟩ := List.getElem?_eq_some_iff.1 hx
  unfold cntG
  rw [List.take_succ_eq_append_getElem hk, List.filter_append, e, List.length_append]
  cases hp : p x <;> simp [hp]
def isPoolV (pool : ByteArray) (x : Srv) : Bool := x.pool.toList == pool.toList
def isPoolW (pool : ByteArray) (x : Wtr) : Bool := x.pool.toList == pool.toList
def isNameP (name : ByteArray) (x : Pl) : Bool := x.nm.toList == name.toList
def isCliV (c : Int) (x : Srv) : Bool := x.client == c
def isCliW (c : Int) (x : Wtr) : Bool := x.client == c
def isIdle (pool : ByteArray) (all : Bool) (x : Srv) : Bool := (x.client == 0) && (all || x.pool.toList == pool.toList)
structure Hom where
  bud : Int
  len : Nat
  ho : Option Addr
  hc : Nat
abbrev wA (S : Sta) (v : Stv) (nx : Int) (h : Hom) : Value := .agg #[.int .i64 S.bud, .slice v.po S.pools.length v.pc, .slice v.so S.srv.length v.sc, .slice v.wo S.wts.length v.wc, .slice v.to S.plan.length v.tc, .bool S.begun, .bool S.back, .int .i64 nx, .int .i64 h.bud, .slice h.ho h.len h.hc]
end Lw
end Go.Proofs.YtohbonfngeblkaaGreat
namespace Go.Proofs.YtohbonfngeblkaaGreat
open Go.RowKit
namespace Lw
open Co
def rLeft (S : Sta) (i : Nat) : Sta := { S with wts := S.wts.eraseIdx i }
def rClosed (S : Sta) (i : Nat) : Sta := { S with srv := S.srv.eraseIdx i }
def rOpened (S : Sta) (nx : Int) (x : Pl) (client : Int) : Sta := { S with srv := S.srv ++ [⟨nx, x.nm, x.fr, client⟩] }
def rSet (S : Sta) (k : Nat) (c : Int) : Sta := { S with srv := S.srv.modify k (fun x => { x with client := c }) }
def rRoom (S : Sta) : Option (Option Nat) := if (S.srv.length : Int) < S.bud then some none else match S.srv.findIdx? (isIdle ⟨#[]⟩ true) with | none => none | some k => some (some k)
def rLent (S : Sta) (nx : Int) (i : Nat) (c : Wtr) : Option (Sta × Int) :=
  match S.pools.find? (isNameP c.pool) with
  | none => none
  | some x => match S.srv.findIdx? (isIdle c.pool false) with
    | some k => some (rSet (rLeft S i) k c.client, nx)
    | none => if x.sz ≤ (cntG (isPoolV c.pool) S.srv : Int) ∨ S.bud < (S.srv.length : Int) then none
      else match rRoom S with
        | none => none
        | some none => some (rOpened (rLeft S i) nx x c.client, nx + 1)
        | some (some k) => some (rOpened (rClosed (rLeft S i) k) nx x c.client, nx + 1)
def rFirst (S : Sta) (nx : Int) : Nat → List Wtr → Option (Sta × Int)
  | _, [] => none
  | i, c :: r => match rLent S nx i c with | some y => some y | none => rFirst S nx (i + 1) r
def rServed : Nat → Sta → Int → Sta × Int
  | 0, S, nx => (S, nx)
  | f + 1, S, nx => match rFirst S nx 0 S.wts with | none => (S, nx) | some y => rServed f y.1 y.2
def cHand (S : Sta) (id c : Int) : Sta := { S with srv := S.srv.map fun x => if x.id = id then { x with client := c } else x }
def cShut (S : Sta) (id : Int) : Sta := { S with srv := S.srv.filter fun x => !decide (x.id = id) }
def cQuit (S : Sta) (c : Int) : Sta := { S with wts := S.wts.filter fun x => !decide (x.client = c) }
def cOpen (S : Sta) (op : Int) (x : Pl) (c : Int) : Sta := { S with srv := S.srv ++ [⟨op + 1, x.nm, x.fr, c⟩] }
def cGive (S : Sta) (op : Int) (c : Wtr) : Option (Sta × Int) :=
  match S.pools.find? (isNameP c.pool) with
  | none => none
  | some x => match S.srv.find? (fun s => isPoolV x.nm s && isCliV 0 s) with
    | some s => some (cHand S s.id c.client, op)
    | none => if x.sz ≤ (cntG (isPoolV x.nm) S.srv : Int) then none
      else if (S.srv.length : Int) < S.bud then some (cOpen S op x c.client, op + 1)
      else match S.srv.find? (isCliV 0) with
        | none => none
        | some s => if S.bud < (S.srv.length : Int) then none else some (cOpen (cShut S s.id) op x c.client, op + 1)
def cFirst (S : Sta) (op : Int) : List Wtr → Option (Sta × Int)
  | [] => none
  | c :: r => match cGive S op c with | some y => some (cQuit y.1 c.client, y.2) | none => cFirst S op r
def cServe : Nat → Sta → Int → Sta × Int
  | 0, S, op => (S, op)
  | f + 1, S, op => match cFirst S op S.wts with | none => (S, op) | some y => cServe f y.1 y.2
structure Inv (S : Sta) (op : Int) : Prop where
  ids : S.srv.Pairwise (fun a b => a.id < b.id)
  low : ∀ x ∈ S.srv, 1 ≤ x.id ∧ x.id ≤ op
  op0 : 0 ≤ op
  cli : S.wts.Pairwise (fun a b => a.client ≠ b.client)
theorem ba_ext' {a b : ByteArray} (h : a.toList = b.toList) : a = b := by
  rw [ByteArray.toList_eq, ByteArray.toList_eq] at h
  cases a; cases b
  simp at h
  rw [h]
theorem find_name {S : Sta} {n : ByteArray} {x : Pl} (h : S.pools.find? (isNameP n) = some x) : x.nm = n := by
  have := List.find?_some h
  simp only [isNameP, beq_iff_eq] at this
  exact ba_ext' this
theorem find_idx {α : Type} (p : α → Bool) : ∀ l : List α, (∀ k, l.findIdx? p = some k → ∃ x, l[k]? = some x ∧ l.find? p = some x) ∧ (l.findIdx? p = none → l.find? p = none)
  | [] => by simp
  | y :: r => by
    obtain ⟨h1, h2⟩ := find_idx p r
    cases hp : p y with
    | true =>
      refine ⟨fun k hk => ?_, fun h => ?_⟩
      · simp [List.findIdx?_cons, hp] at hk
        subst hk
        exact ⟨y, rfl, by simp [hp]⟩
      · simp [List.findIdx?_cons, hp] at h
    | false =>
      refine ⟨fun k hk => ?_, fun h => ?_⟩
      · simp only [List.findIdx?_cons, hp] at hk
        cases hr : r.findIdx? p with
        | none => rw [hr] at hk; simp at hk
        | some j =>
          rw [hr] at hk
          simp at hk
          subst hk
          obtain ⟨x, hx, hx2⟩ := h1 j hr
          exact ⟨x, by simpa using hx, by simp [hp, hx2]⟩
      · simp only [List.findIdx?_cons, hp] at h
        have : r.findIdx? p = none := by
          cases hr : r.findIdx? p with
          | none => rfl
          | some j => rw [hr] at h; simp at h
        simp [hp, h2 this]
theorem hand_place : ∀ (l : List Srv), l.Pairwise (fun a b => a.id < b.id) → ∀ (k : Nat) (s : Srv) (c : Int), l[k]? = some s → (l.map fun x => if x.id = s.id then { x with client := c } else x) = l.modify k (fun x => { x with client := c })
  | [], _, k, s, c, h => by simp at h
  | y :: r, hp, 0, s, c, h => by
    simp at h; subst h
    have h1 := (List.pairwise_cons.1 hp).1
    simp only [List.map_cons, if_true, List.modify_zero_cons]
    congr 1
    refine (List.map_congr_left (fun x hx => ?_)).trans (List.map_id _)
    rw [if_neg (by have := h1 x hx; omega)]
    rfl
  | y :: r, hp, k + 1, s, c, h => by
    have h1 := (List.pairwise_cons.1 hp).1
    have hs : s ∈ r := List.mem_of_getElem? (by simpa using h)
    have ih := hand_place r (List.pairwise_cons.1 hp).2 k s c (by simpa using h)
    simp only [List.map_cons, List.modify_succ_cons]
    rw [ih, if_neg (by have := h1 s hs; omega)]
theorem shut_place : ∀ (l : List Srv), l.Pairwise (fun a b => a.id < b.id) → ∀ (k : Nat) (s : Srv), l[k]? = some s → (l.filter fun x => !decide (x.id = s.id)) = l.eraseIdx k
  | [], _, k, s, h => by simp at h
  | y :: r, hp, 0, s, h => by
    simp at h; subst h
    have h1 := (List.pairwise_cons.1 hp).1
    simp only [List.filter_cons, decide_true, Bool.not_true, Bool.false_eq_true, if_false, List.eraseIdx_zero, List.tail_cons]
    refine List.filter_eq_self.2 (fun x hx => ?_)
    have := h1 x hx
    simp; omega
  | y :: r, hp, k + 1, s, h => by
    have h1 := (List.pairwise_cons.1 hp).1
    have hs : s ∈ r := List.mem_of_getElem? (by simpa using h)
    have ih := shut_place r (List.pairwise_cons.1 hp).2 k s (by simpa using h)
    have := h1 s hs
    rw [List.filter_cons, if_pos (by simp; omega), ih]
    rfl
theorem quit_place : ∀ (l : List Wtr), l.Pairwise (fun a b => a.client ≠ b.client) → ∀ (k : Nat) (s : Wtr), l[k]? = some s → (l.filter fun x => !decide (x.client = s.client)) = l.eraseIdx k
  | [], _, k, s, h => by simp at h
  | y :: r, hp, 0, s, h => by
    simp at h; subst h
    have h1 := (List.pairwise_cons.1 hp).1
    simp only [List.filter_cons, decide_true, Bool.not_true, Bool.false_eq_true, if_false, List.eraseIdx_zero, List.tail_cons]
    refine List.filter_eq_self.2 (fun x hx => ?_)
    have := h1 x hx
    simp; omega
  | y :: r, hp, k + 1, s, h => by
    have h1 := (List.pairwise_cons.1 hp).1
    have hs : s ∈ r := List.mem_of_getElem? (by simpa using h)
    have ih := quit_place r (List.pairwise_cons.1 hp).2 k s (by simpa using h)
    have := h1 s hs
    rw [List.filter_cons, if_pos (by simp; omega), ih]
    rfl
theorem give_lent {S : Sta} {op : Int} (hI : Inv S op) {i : Nat} {c : Wtr} (hi : S.wts[i]? = some c) :
    (cGive S op c).map (fun y => (cQuit y.1 c.client, y.2 + 1)) = rLent S (op + 1) i c := by
  have hq : ∀ T : Sta, T.wts = S.wts → cQuit T c.client = rLeft T i := by
    intro T hT
    unfold cQuit rLeft
    rw [hT, quit_place S.wts hI.cli i c hi]
  unfold cGive rLent
  cases hf : S.pools.find? (isNameP c.pool) with
  | none => rfl
  | some x =>
    have hx := find_name hf
    have hp : (fun s => isPoolV x.nm s && isCliV 0 s) = isIdle c.pool false := by
      funext s
      simp only [isPoolV, isCliV, isIdle, hx, Bool.false_or]
      exact Bool.and_comm _ _
    have hp2 : isCliV 0 = isIdle ⟨#[]⟩ true := by
      funext s
      simp [isCliV, isIdle]
    simp only
    rw [hp, hp2, hx]
    obtain ⟨f1, f2⟩ := find_idx (isIdle c.pool false) S.srv
    cases hk : S.srv.findIdx? (isIdle c.pool false) with
    | some k =>
      obtain ⟨s, hs, hs2⟩ := f1 k hk
      rw [hs2]
      simp only [Option.map_some]
      congr 2
      unfold cQuit cHand rSet rLeft
      rw [quit_place S.wts hI.cli i c hi, hand_place S.srv hI.ids k s c.client hs]
    | none =>
      rw [f2 hk]
      simp only
      by_cases hz : x.sz ≤ (cntG (isPoolV c.pool) S.srv : Int)
      · rw [if_pos hz, if_pos (.inl hz)]; rfl
      · rw [if_neg hz]
        by_cases hb : (S.srv.length : Int) < S.bud
        · rw [if_pos hb, if_neg (by omega)]
          unfold rRoom
          rw [if_pos hb]
          simp only [Option.map_some]
          congr 2
          unfold cQuit cOpen rOpened rLeft
          rw [quit_place S.wts hI.cli i c hi]
        · rw [if_neg hb]
          obtain ⟨g1, g2⟩ := find_idx (isIdle ⟨#[]⟩ true) S.srv
          cases hj : S.srv.findIdx? (isIdle ⟨#[]⟩ true) with
          | none =>
            rw [g2 hj]
            simp only [Option.map_none]
            split
            · rfl
            · unfold rRoom; rw [if_neg hb, hj]
          | some j =>
            obtain ⟨s, hs, hs2⟩ := g1 j hj
            rw [hs2]
            simp only
            by_cases hbb : S.bud < (S.srv.length : Int)
            · rw [if_pos hbb, if_pos (.inr hbb)]; rfl
            · rw [if_neg hbb, if_neg (by omega)]
              unfold rRoom
              rw [if_neg hb, hj]
              simp only [Option.map_some]
              congr 2
              unfold cQuit cOpen cShut rOpened rClosed rLeft
              rw [quit_place S.wts hI.cli i c hi, shut_place S.srv hI.ids j s hs]
end Lw
end Go.Proofs.YtohbonfngeblkaaGreat
