import Derived.Test.YtmmmjpkhnbfnbaaGreatMgH
import Derived.Maps.AppendAt
namespace Go.Proofs.YtmmmjpkhnbfnbaaGreat
open Go.RowKit
namespace Lw
open Co

/-- servers, those who wait, steps -/
structure Srv where
  id : Int
  pool : ByteArray
  far : Int
  client : Int
structure Wtr where
  client : Int
  pool : ByteArray
structure Stp where
  kind : Int
  name : ByteArray
  n : Int
def fSv (x : Srv) : List Value := [.int .i64 x.id, .string x.pool, .int .i64 x.far, .int .i64 x.client]
def fWt (x : Wtr) : List Value := [.int .i64 x.client, .string x.pool]
def fSt (x : Stp) : List Value := [.int .i64 x.kind, .string x.name, .int .i64 x.n]
def flatV (l : List Srv) : List Value := l.flatMap fSv
def flatW (l : List Wtr) : List Value := l.flatMap fWt
def flatT (l : List Stp) : List Value := l.flatMap fSt
theorem fm_at {α : Type} (f : α → List Value) (k : Nat) (hf : ∀ x, (f x).length = k) : ∀ (l : List α) (i : Nat) (x : α), l[i]? = some x → ∀ j, j < k → (l.flatMap f)[i * k + j]? = (f x)[j]?
  | [], i, x, h, _, _ => by simp at h
  | y :: r, 0, x, h, j, hj => by
    simp at h; subst h
    rw [List.flatMap_cons, Nat.zero_mul, Nat.zero_add, List.getElem?_append_left (by rw [hf]; exact hj)]
  | y :: r, i + 1, x, h, j, hj => by
    have ih := fm_at f k hf r i x (by simpa using h) j hj
    rw [List.flatMap_cons, List.getElem?_append_right (by rw [hf, Nat.succ_mul]; omega), hf, ← ih]
    congr 1
    rw [Nat.succ_mul]; omega
theorem fm_len {α : Type} (f : α → List Value) (k : Nat) (hf : ∀ x, (f x).length = k) (l : List α) : (l.flatMap f).length = l.length * k := by
  induction l with
  | nil => simp
  | cons x r ih => rw [List.flatMap_cons, List.length_append, ih, hf, List.length_cons, Nat.succ_mul]; omega
theorem fm_one {α : Type} (f : α → List Value) (hf : ∀ x, ∀ u ∈ f x, u.oneCell' = true) (l : List α) : ∀ u ∈ l.flatMap f, u.oneCell' = true := by
  intro u hu
  obtain ⟨x, _, hx⟩ := List.mem_flatMap.1 hu
  exact hf x u hx
theorem row_get {α : Type} {f : α → List Value} {k : Nat} (hf : ∀ x, (f x).length = k) {w : World} {ao : Option Addr} {n m cap : Nat} {l : List α} (h : RowAt w (.slice ao n cap) m (l.flatMap f)) {i : Nat} {x : α} (hi : l[i]? = some x) (hk : 0 < k) :
    ∃ b off, ao = some ⟨b, off, none⟩ ∧ b < w.heap.size ∧ ∀ j v, (f x)[j]? = some v → w.cell? ⟨b, off + (i * k + j), none⟩ = some v := by
  have h0 : (l.flatMap f)[i * k + 0]? = some ((f x)[0]'(by rw [hf]; exact hk)) := by
    rw [fm_at f k hf l i x hi 0 hk, List.getElem?_eq_getElem]
  obtain ⟨b, off, e, hb, _⟩ := h.at h0
  refine ⟨b, off, e, hb, fun j v hj => ?_⟩
  have hjk : j < k := by rw [← hf x]; exact (List.getElem?_eq_some_iff.1 hj).1
  obtain ⟨b', off', e', _, g⟩ := h.at ((fm_at f k hf l i x hi j hjk).trans hj)
  rw [e] at e'
  obtain ⟨rfl, rfl⟩ : b = b' ∧ off = off' := by simpa using e'
  exact g
theorem sv_at {w : World} {ao : Option Addr} {n m cap : Nat} {l : List Srv} (h : RowAt w (.slice ao n cap) m (flatV l)) {i : Nat} {x : Srv} (hi : l[i]? = some x) :
    ∃ b off, ao = some ⟨b, off, none⟩ ∧ b < w.heap.size ∧ w.cell? ⟨b, off + i * 4, none⟩ = some (.int .i64 x.id) ∧ w.cell? ⟨b, off + i * 4 + 1, none⟩ = some (.string x.pool) ∧ w.cell? ⟨b, off + i * 4 + 2, none⟩ = some (.int .i64 x.far) ∧ w.cell? ⟨b, off + i * 4 + 3, none⟩ = some (.int .i64 x.client) := by
  obtain ⟨b, off, e, hb, g⟩ := row_get (f := fSv) (k := 4) (fun _ => rfl) h hi (by omega)
  exact ⟨b, off, e, hb, g 0 _ rfl, g 1 _ rfl, g 2 _ rfl, g 3 _ rfl⟩
theorem wt_at {w : World} {ao : Option Addr} {n m cap : Nat} {l : List Wtr} (h : RowAt w (.slice ao n cap) m (flatW l)) {i : Nat} {x : Wtr} (hi : l[i]? = some x) :
    ∃ b off, ao = some ⟨b, off, none⟩ ∧ b < w.heap.size ∧ w.cell? ⟨b, off + i * 2, none⟩ = some (.int .i64 x.client) ∧ w.cell? ⟨b, off + i * 2 + 1, none⟩ = some (.string x.pool) := by
  obtain ⟨b, off, e, hb, g⟩ := row_get (f := fWt) (k := 2) (fun _ => rfl) h hi (by omega)
  exact ⟨b, off, e, hb, g 0 _ rfl, g 1 _ rfl⟩
theorem st_at {w : World} {ao : Option Addr} {n m cap : Nat} {l : List Stp} (h : RowAt w (.slice ao n cap) m (flatT l)) {i : Nat} {x : Stp} (hi : l[i]? = some x) :
    ∃ b off, ao = some ⟨b, off, none⟩ ∧ b < w.heap.size ∧ w.cell? ⟨b, off + i * 3, none⟩ = some (.int .i64 x.kind) ∧ w.cell? ⟨b, off + i * 3 + 1, none⟩ = some (.string x.name) ∧ w.cell? ⟨b, off + i * 3 + 2, none⟩ = some (.int .i64 x.n) := by
  obtain ⟨b, off, e, hb, g⟩ := row_get (f := fSt) (k := 3) (fun _ => rfl) h hi (by omega)
  exact ⟨b, off, e, hb, g 0 _ rfl, g 1 _ rfl, g 2 _ rfl⟩

/-- only blocks of F, and new ones, have changed -/
structure Chg (F : Nat → Prop) (w w' : World) : Prop where
  os : w'.os = w.os
  tape : w'.tape = w.tape
  output : w'.output = w.output
  size : w.heap.size ≤ w'.heap.size
  block : ∀ b, b < w.heap.size → ¬ F b → w'.heap[b]? = w.heap[b]?
theorem Chg.of_below {w w' : World} {F : Nat → Prop} (h : Below w.heap.size w w') : Chg F w w' := ⟨h.os, h.tape, h.output, h.size, fun b hb _ => h.block b hb⟩
theorem Chg.refl (F : Nat → Prop) (w : World) : Chg F w w := ⟨rfl, rfl, rfl, Nat.le_refl _, fun _ _ _ => rfl⟩
theorem Chg.trans {F G : Nat → Prop} {a b c : World} (h : Chg F a b) (k : Chg G b c) (hG : ∀ x, G x → F x ∨ a.heap.size ≤ x) : Chg F a c :=
  ⟨k.os.trans h.os, k.tape.trans h.tape, k.output.trans h.output, Nat.le_trans h.size k.size, fun x hx hF => (k.block x (Nat.lt_of_lt_of_le hx h.size) (fun hg => (hG x hg).elim hF (fun h1 => by omega))).trans (h.block x hx hF)⟩
theorem Chg.mono {F G : Nat → Prop} {a b : World} (h : Chg F a b) (hF : ∀ x, F x → G x) : Chg G a b := ⟨h.os, h.tape, h.output, h.size, fun x hx hg => h.block x hx (fun hf => hg (hF x hf))⟩
theorem Chg.below {F : Nat → Prop} {a b : World} (h : Chg F a b) {B : Nat} (hB : B ≤ a.heap.size) (hF : ∀ x, F x → B ≤ x) : Below B a b :=
  ⟨h.os, h.tape, h.output, h.size, fun x hx => h.block x (Nat.lt_of_lt_of_le hx hB) (fun hf => by have := hF x hf; omega)⟩
theorem Chg.set {F : Nat → Prop} (w : World) (g a : Nat) (v : Value) (hF : F g) : Chg F w (w.setCell ⟨g, a, none⟩ v) := by
  have h := (Below.refl 0 w).setCell (Nat.zero_le (⟨g, a, none⟩ : Addr).block) v
  refine ⟨h.os, h.tape, h.output, h.size, fun b hb hb2 => ?_⟩
  exact Below.heap_setCell _ _ _ _ (fun e => hb2 (by rw [show b = g from e]; exact hF))
end Lw
end Go.Proofs.YtmmmjpkhnbfnbaaGreat
namespace Go.Proofs.YtmmmjpkhnbfnbaaGreat
open Go.RowKit
namespace Lw
open Co

set_option maxRecDepth 20000 in
set_option maxHeartbeats 1000000 in
theorem sameV (ao1 ao2 : Option Addr) (n k1 k2 : Nat) (l : List Srv) (w : World) (hr1 : RowAt w (.slice ao1 n k1) n (flatV l)) (hr2 : RowAt w (.slice ao2 n k2) n (flatV l)) (hn : l.length = n) (hlen : n ≤ maxLen) :
    Calls Tryz.prog 29 #[.slice ao1 n k1, .slice ao2 n k2] w fun e w' => e = .returned (.bool true) ∧ Below w.heap.size w w' := by
  unfold maxLen at hlen
  have HP : Hid (RowAt w (.slice ao1 n k1) n (flatV l) ∧ RowAt w (.slice ao2 n k2) n (flatV l) ∧ l.length = n) := ⟨hr1, hr2, hn⟩
  clear hr1 hr2 hn
  go_enter Tryz.func29, Tryz.ntmps29
  go_wp2_with fail
  go_loopw [5] (fun i wr => ∃ (k : Nat), k ≤ n ∧ i = .int .i64 k ∧ Below w.heap.size w wr) (fun i _ => n - (intOf i).toNat)
  case atStart => exact ⟨0, Nat.zero_le _, rfl, Below.refl _ _⟩
  case round =>
    obtain ⟨k, hk, rfl, hbel⟩ := hrel
    by_cases hlt : k < n
    · obtain ⟨⟨x0, x1, x2, x3⟩, hp⟩ : ∃ p, l[k]? = some p := ⟨_, List.getElem?_eq_getElem (by rw [HP.out.2.2]; exact hlt)⟩
      obtain ⟨bl, off, hao, hbl, c0, c1, c2, c3⟩ := sv_at (HP.out.1.nx hbel) hp
      obtain ⟨bl', off', hao', hbl', d0, d1, d2, d3⟩ := sv_at (HP.out.2.1.nx hbel) hp
      subst hao hao'
      clear hp hbl hbl'
      simp only at c0 c1 c2 c3 d0 d1 d2 d3
      have hlti : (k : Int) < (n : Int) := by omega
      go_wp2_with fail
      go_quiet (fail)
      go_wp2_with fail
      go_roundw
      case rel => exact ⟨k + 1, by omega, by go_num, below_drewN hbel _⟩
      case measure => simp [intOf]; omega
    · go_wp2_with fail
      go_ret
      exact ⟨rfl, hbel⟩

set_option maxRecDepth 20000 in
set_option maxHeartbeats 1000000 in
theorem sameW (ao1 ao2 : Option Addr) (n k1 k2 : Nat) (l : List Wtr) (w : World) (hr1 : RowAt w (.slice ao1 n k1) n (flatW l)) (hr2 : RowAt w (.slice ao2 n k2) n (flatW l)) (hn : l.length = n) (hlen : n ≤ maxLen) :
    Calls Tryz.prog 30 #[.slice ao1 n k1, .slice ao2 n k2] w fun e w' => e = .returned (.bool true) ∧ Below w.heap.size w w' := by
  unfold maxLen at hlen
  have HP : Hid (RowAt w (.slice ao1 n k1) n (flatW l) ∧ RowAt w (.slice ao2 n k2) n (flatW l) ∧ l.length = n) := ⟨hr1, hr2, hn⟩
  clear hr1 hr2 hn
  go_enter Tryz.func30, Tryz.ntmps30
  go_wp2_with fail
  go_loopw [5] (fun i wr => ∃ (k : Nat), k ≤ n ∧ i = .int .i64 k ∧ Below w.heap.size w wr) (fun i _ => n - (intOf i).toNat)
  case atStart => exact ⟨0, Nat.zero_le _, rfl, Below.refl _ _⟩
  case round =>
    obtain ⟨k, hk, rfl, hbel⟩ := hrel
    by_cases hlt : k < n
    · obtain ⟨⟨x0, x1⟩, hp⟩ : ∃ p, l[k]? = some p := ⟨_, List.getElem?_eq_getElem (by rw [HP.out.2.2]; exact hlt)⟩
      obtain ⟨bl, off, hao, hbl, c0, c1⟩ := wt_at (HP.out.1.nx hbel) hp
      obtain ⟨bl', off', hao', hbl', d0, d1⟩ := wt_at (HP.out.2.1.nx hbel) hp
      subst hao hao'
      clear hp hbl hbl'
      simp only at c0 c1 d0 d1
      have hlti : (k : Int) < (n : Int) := by omega
      go_wp2_with fail
      go_quiet (fail)
      go_wp2_with fail
      go_roundw
      case rel => exact ⟨k + 1, by omega, by go_num, below_drewN hbel _⟩
      case measure => simp [intOf]; omega
    · go_wp2_with fail
      go_ret
      exact ⟨rfl, hbel⟩

set_option maxRecDepth 20000 in
set_option maxHeartbeats 1000000 in
theorem sameS (ao1 ao2 : Option Addr) (n k1 k2 : Nat) (l : List Stp) (w : World) (hr1 : RowAt w (.slice ao1 n k1) n (flatT l)) (hr2 : RowAt w (.slice ao2 n k2) n (flatT l)) (hn : l.length = n) (hlen : n ≤ maxLen) :
    Calls Tryz.prog 31 #[.slice ao1 n k1, .slice ao2 n k2] w fun e w' => e = .returned (.bool true) ∧ Below w.heap.size w w' := by
  unfold maxLen at hlen
  have HP : Hid (RowAt w (.slice ao1 n k1) n (flatT l) ∧ RowAt w (.slice ao2 n k2) n (flatT l) ∧ l.length = n) := ⟨hr1, hr2, hn⟩
  clear hr1 hr2 hn
  go_enter Tryz.func31, Tryz.ntmps31
  go_wp2_with fail
  go_loopw [5] (fun i wr => ∃ (k : Nat), k ≤ n ∧ i = .int .i64 k ∧ Below w.heap.size w wr) (fun i _ => n - (intOf i).toNat)
  case atStart => exact ⟨0, Nat.zero_le _, rfl, Below.refl _ _⟩
  case round =>
    obtain ⟨k, hk, rfl, hbel⟩ := hrel
    by_cases hlt : k < n
    · obtain ⟨⟨x0, x1, x2⟩, hp⟩ : ∃ p, l[k]? = some p := ⟨_, List.getElem?_eq_getElem (by rw [HP.out.2.2]; exact hlt)⟩
      obtain ⟨bl, off, hao, hbl, c0, c1, c2⟩ := st_at (HP.out.1.nx hbel) hp
      obtain ⟨bl', off', hao', hbl', d0, d1, d2⟩ := st_at (HP.out.2.1.nx hbel) hp
      subst hao hao'
      clear hp hbl hbl'
      simp only at c0 c1 c2 d0 d1 d2
      have hlti : (k : Int) < (n : Int) := by omega
      go_wp2_with fail
      go_quiet (fail)
      go_wp2_with fail
      go_roundw
      case rel => exact ⟨k + 1, by omega, by go_num, below_drewN hbel _⟩
      case measure => simp [intOf]; omega
    · go_wp2_with fail
      go_ret
      exact ⟨rfl, hbel⟩

set_option maxRecDepth 20000 in
set_option maxHeartbeats 1000000 in
theorem sameP (b : Int) (ao1 ao2 : Option Addr) (n c1 c2 : Nat) (ps : List Pl) (w : World) (hr1 : RowAt w (.slice ao1 n c1) n (flatP ps)) (hr2 : RowAt w (.slice ao2 n c2) n (flatP ps)) (hn : ps.length = n) (hlen : n ≤ maxLen) :
    Calls Tryz.prog 28 #[.agg #[.int .i64 b, .slice ao1 n c1], .agg #[.int .i64 b, .slice ao2 n c2]] w fun e w' => e = .returned (.bool true) ∧ Below w.heap.size w w' := by
  unfold maxLen at hlen
  have HN : Hid (ps.length = n) := hn
  clear hn
  have HP : Hid (RowAt ((w.alloc (bTab b (.slice ao1 n c1))).alloc (bTab b (.slice ao2 n c2))) (.slice ao1 n c1) n (flatP ps) ∧ RowAt ((w.alloc (bTab b (.slice ao1 n c1))).alloc (bTab b (.slice ao2 n c2))) (.slice ao2 n c2) n (flatP ps)) :=
    ⟨(hr1.nx (nx_alloc _ _)).nx (nx_alloc _ _), (hr2.nx (nx_alloc _ _)).nx (nx_alloc _ _)⟩
  clear hr1 hr2
  go_enter Tryz.func28, Tryz.ntmps28
  go_wp2_with fail
  go_loopw [5] (fun i wr => ∃ (k : Nat), k ≤ n ∧ i = .int .i64 k ∧
      Below ((w.alloc (bTab b (.slice ao1 n c1))).alloc (bTab b (.slice ao2 n c2))).heap.size ((w.alloc (bTab b (.slice ao1 n c1))).alloc (bTab b (.slice ao2 n c2))) wr) (fun i _ => n - (intOf i).toNat)
  case atStart => exact ⟨0, Nat.zero_le _, rfl, Below.refl _ _⟩
  case round =>
    obtain ⟨k, hk, rfl, hbel⟩ := hrel
    have hcell : wr.cell? ⟨w.heap.size, 1, none⟩ = some (.slice ao1 n c1) := by
      refine (hbel.cell (p := ⟨w.heap.size, 1, none⟩) (by simp; omega)).trans ?_
      simp
    have hcell2 : wr.cell? ⟨w.heap.size + 1, 1, none⟩ = some (.slice ao2 n c2) := by
      refine (hbel.cell (p := ⟨w.heap.size + 1, 1, none⟩) (by simp)).trans ?_
      simp
    have HB : Hid (Below w.heap.size w wr) := nx_trans (nx_trans (nx_alloc _ _) (nx_alloc _ _)) hbel
    by_cases hlt : k < n
    · obtain ⟨⟨nm, sz, wt, fr⟩, hp⟩ : ∃ p, ps[k]? = some p := ⟨_, List.getElem?_eq_getElem (by rw [HN.out]; exact hlt)⟩
      obtain ⟨bl, off, hao, hbl, c0, c1', c2', c3⟩ := pool_at (HP.out.1.nx hbel) hp
      obtain ⟨bl', off', hao', hbl', d0, d1, d2, d3⟩ := pool_at (HP.out.2.nx hbel) hp
      subst hao hao'
      clear hp hbl hbl'
      simp only at c0 c1' c2' c3 d0 d1 d2 d3
      have hlti : (k : Int) < (n : Int) := by omega
      go_wp2_with fail
      go_quiet (fail)
      go_wp2_with fail
      go_roundw
      case rel => exact ⟨k + 1, by omega, by go_num, below_drewN hbel _⟩
      case measure => simp [intOf]; omega
    · go_wp2_with fail
      go_ret
      exact ⟨rfl, HB.out⟩

/-- a state's value and its lists -/
structure Sta where
  bud : Int
  pools : List Pl
  srv : List Srv
  wts : List Wtr
  plan : List Stp
  begun : Bool
  back : Bool
structure Stv where
  po : Option Addr
  pc : Nat
  so : Option Addr
  sc : Nat
  wo : Option Addr
  wc : Nat
  to : Option Addr
  tc : Nat
abbrev staA (S : Sta) (v : Stv) : Value := .agg #[.int .i64 S.bud, .slice v.po S.pools.length v.pc, .slice v.so S.srv.length v.sc, .slice v.wo S.wts.length v.wc, .slice v.to S.plan.length v.tc, .bool S.begun, .bool S.back]
abbrev bSta (S : Sta) (v : Stv) : Obj := .cells #[.int .i64 S.bud, .slice v.po S.pools.length v.pc, .slice v.so S.srv.length v.sc, .slice v.wo S.wts.length v.wc, .slice v.to S.plan.length v.tc, .bool S.begun, .bool S.back] 36
/-- the lists lie there -/
structure StaAt (w : World) (S : Sta) (v : Stv) : Prop where
  p : RowAt w (.slice v.po S.pools.length v.pc) S.pools.length (flatP S.pools)
  s : RowAt w (.slice v.so S.srv.length v.sc) S.srv.length (flatV S.srv)
  t : RowAt w (.slice v.wo S.wts.length v.wc) S.wts.length (flatW S.wts)
  l : RowAt w (.slice v.to S.plan.length v.tc) S.plan.length (flatT S.plan)
theorem StaAt.nx {w w' : World} {S : Sta} {v : Stv} (h : StaAt w S v) (hb : Below w.heap.size w w') : StaAt w' S v := ⟨h.p.nx hb, h.s.nx hb, h.t.nx hb, h.l.nx hb⟩
/-- the lists are not too long -/
structure Small (S : Sta) : Prop where
  p : S.pools.length ≤ maxLen
  s : S.srv.length ≤ maxLen
  t : S.wts.length ≤ maxLen
  l : S.plan.length ≤ maxLen
theorem blk7 {W w3 : World} {B : Nat} (hb : Below B W w3) {g : Nat} (hg : g < B) {c0 c1 c2 c3 c4 c5 c6 : Value} {t : TypeId} (h : W.heap[g]? = some (.cells #[c0, c1, c2, c3, c4, c5, c6] t (0, 0))) :
    w3.cell? ⟨g, 0, none⟩ = some c0 ∧ w3.cell? ⟨g, 1, none⟩ = some c1 ∧ w3.cell? ⟨g, 2, none⟩ = some c2 ∧ w3.cell? ⟨g, 3, none⟩ = some c3 ∧ w3.cell? ⟨g, 4, none⟩ = some c4 ∧ w3.cell? ⟨g, 5, none⟩ = some c5 ∧ w3.cell? ⟨g, 6, none⟩ = some c6 := by
  have h' : w3.heap[g]? = some (.cells #[c0, c1, c2, c3, c4, c5, c6] t (0, 0)) := (hb.block g hg).trans h
  refine ⟨?_, ?_, ?_, ?_, ?_, ?_, ?_⟩ <;> simp [World.cell?, h']

end Lw
end Go.Proofs.YtmmmjpkhnbfnbaaGreat
namespace Go.Proofs.YtmmmjpkhnbfnbaaGreat
open Go.RowKit
namespace Lw
open Co

set_option maxRecDepth 20000 in
set_option maxHeartbeats 1000000 in
theorem sameState_flat (bud : Int) (ps : List Pl) (ss : List Srv) (ws : List Wtr) (ts : List Stp) (bg bk : Bool) (n1 n2 n3 n4 : Nat) (po : Option Addr) (pc : Nat) (so : Option Addr) (sc : Nat) (wo : Option Addr) (wc : Nat) (to : Option Addr) (tc : Nat) (po' : Option Addr) (pc' : Nat) (so' : Option Addr) (sc' : Nat) (wo' : Option Addr) (wc' : Nat) (to' : Option Addr) (tc' : Nat) (w : World)
    (hn : ps.length = n1 ∧ ss.length = n2 ∧ ws.length = n3 ∧ ts.length = n4) (hl : n1 ≤ maxLen ∧ n2 ≤ maxLen ∧ n3 ≤ maxLen ∧ n4 ≤ maxLen)
    (h1 : RowAt w (.slice po n1 pc) n1 (flatP ps) ∧ RowAt w (.slice so n2 sc) n2 (flatV ss) ∧ RowAt w (.slice wo n3 wc) n3 (flatW ws) ∧ RowAt w (.slice to n4 tc) n4 (flatT ts))
    (h2 : RowAt w (.slice po' n1 pc') n1 (flatP ps) ∧ RowAt w (.slice so' n2 sc') n2 (flatV ss) ∧ RowAt w (.slice wo' n3 wc') n3 (flatW ws) ∧ RowAt w (.slice to' n4 tc') n4 (flatT ts)) :
    Calls Tryz.prog 12 #[.agg #[.int .i64 bud, .slice po n1 pc, .slice so n2 sc, .slice wo n3 wc, .slice to n4 tc, .bool bg, .bool bk], .agg #[.int .i64 bud, .slice po' n1 pc', .slice so' n2 sc', .slice wo' n3 wc', .slice to' n4 tc', .bool bg, .bool bk]] w fun e w' => e = .returned (.bool true) ∧ Below w.heap.size w w' := by
  have HN := hideIt hn
  have HL := hideIt hl
  obtain ⟨W, hW⟩ : ∃ W, W = (w.alloc (.cells #[.int .i64 bud, .slice po n1 pc, .slice so n2 sc, .slice wo n3 wc, .slice to n4 tc, .bool bg, .bool bk] 36)).alloc (.cells #[.int .i64 bud, .slice po' n1 pc', .slice so' n2 sc', .slice wo' n3 wc', .slice to' n4 tc', .bool bg, .bool bk] 36) := ⟨_, rfl⟩
  have hB0 : Below w.heap.size w W := by rw [hW]; exact nx_trans (nx_alloc _ _) (nx_alloc _ _)
  have HG : Hid (W.heap[w.heap.size]? = some (.cells #[.int .i64 bud, .slice po n1 pc, .slice so n2 sc, .slice wo n3 wc, .slice to n4 tc, .bool bg, .bool bk] 36) ∧ W.heap[w.heap.size + 1]? = some (.cells #[.int .i64 bud, .slice po' n1 pc', .slice so' n2 sc', .slice wo' n3 wc', .slice to' n4 tc', .bool bg, .bool bk] 36) ∧ W.heap.size = w.heap.size + 2 ∧ Below w.heap.size w W) := by
    refine ⟨?_, ?_, ?_, hB0⟩
    · rw [hW]; exact (heap_alloc_lt _ _ (by simp)).trans (heap_alloc_at _ _ rfl)
    · rw [hW]; exact heap_alloc_at _ _ (by simp)
    · rw [hW]; simp
  have H1 : Hid (RowAt W (.slice so n2 sc) n2 (flatV ss) ∧ RowAt W (.slice wo n3 wc) n3 (flatW ws) ∧ RowAt W (.slice to n4 tc) n4 (flatT ts)) := ⟨h1.2.1.nx hB0, h1.2.2.1.nx hB0, h1.2.2.2.nx hB0⟩
  have H2 : Hid (RowAt W (.slice so' n2 sc') n2 (flatV ss) ∧ RowAt W (.slice wo' n3 wc') n3 (flatW ws) ∧ RowAt W (.slice to' n4 tc') n4 (flatT ts)) := ⟨h2.2.1.nx hB0, h2.2.2.1.nx hB0, h2.2.2.2.nx hB0⟩
  have HC := hideIt (sameP bud po po' n1 pc pc' ps W (h1.1.nx hB0) (h2.1.nx hB0) hn.1 hl.1)
  rw [hW] at HC
  have HW := hideIt hW
  clear h1 h2 hn hl hB0 hW
  go_enter Tryz.func12, Tryz.ntmps12
  go_wp2_with fail
  refine HC.out.mono ?_
  rintro e w1 ⟨rfl, hb1⟩
  rw [← HW.out] at hb1
  have K1 : Hid (Below W.heap.size W w1) := hb1
  obtain ⟨a0, a1, a2, a3, a4, a5, a6⟩ := blk7 hb1 (by rw [HG.out.2.2.1]; omega) HG.out.1
  obtain ⟨b0, b1, b2, b3, b4, b5, b6⟩ := blk7 hb1 (by rw [HG.out.2.2.1]; omega) HG.out.2.1
  have HC1 := hideIt (sameV so so' n2 sc sc' ss w1 (H1.out.1.nx hb1) (H2.out.1.nx hb1) HN.out.2.1 HL.out.2.1)
  clear hb1 HC
  go_wp2_with fail
  refine HC1.out.mono ?_
  rintro e w2 ⟨rfl, hb2⟩
  have hb02 := nx_trans K1.out hb2
  have K2 : Hid (Below W.heap.size W w2) := hb02
  clear a0 a1 a2 a3 a4 a5 a6 b0 b1 b2 b3 b4 b5 b6
  obtain ⟨a0, a1, a2, a3, a4, a5, a6⟩ := blk7 hb02 (by rw [HG.out.2.2.1]; omega) HG.out.1
  obtain ⟨b0, b1, b2, b3, b4, b5, b6⟩ := blk7 hb02 (by rw [HG.out.2.2.1]; omega) HG.out.2.1
  have HC2 := hideIt (sameW wo wo' n3 wc wc' ws w2 (H1.out.2.1.nx hb02) (H2.out.2.1.nx hb02) HN.out.2.2.1 HL.out.2.2.1)
  clear hb2 hb02 HC1
  go_wp2_with fail
  refine HC2.out.mono ?_
  rintro e w3 ⟨rfl, hb3⟩
  have hb03 := nx_trans K2.out hb3
  have K3 : Hid (Below W.heap.size W w3) := hb03
  clear a0 a1 a2 a3 a4 a5 a6 b0 b1 b2 b3 b4 b5 b6
  obtain ⟨a0, a1, a2, a3, a4, a5, a6⟩ := blk7 hb03 (by rw [HG.out.2.2.1]; omega) HG.out.1
  obtain ⟨b0, b1, b2, b3, b4, b5, b6⟩ := blk7 hb03 (by rw [HG.out.2.2.1]; omega) HG.out.2.1
  have HC3 := hideIt (sameS to to' n4 tc tc' ts w3 (H1.out.2.2.nx hb03) (H2.out.2.2.nx hb03) HN.out.2.2.2 HL.out.2.2.2)
  clear hb3 hb03 HC2
  go_wp2_with fail
  refine HC3.out.mono ?_
  rintro e w4 ⟨rfl, hb4⟩
  have hb04 := nx_trans K3.out hb4
  have K4 : Hid (Below w.heap.size w w4) := nx_trans HG.out.2.2.2 hb04
  clear a0 a1 a2 a3 a4 a5 a6 b0 b1 b2 b3 b4 b5 b6
  obtain ⟨a0, a1, a2, a3, a4, a5, a6⟩ := blk7 hb04 (by rw [HG.out.2.2.1]; omega) HG.out.1
  obtain ⟨b0, b1, b2, b3, b4, b5, b6⟩ := blk7 hb04 (by rw [HG.out.2.2.1]; omega) HG.out.2.1
  clear hb4 hb04 HC3
  go_wp2_with fail
  go_ret
  exact ⟨by simp, K4.out⟩
theorem sameState_true (S : Sta) (v u : Stv) (w : World) (h1 : StaAt w S v) (h2 : StaAt w S u) (hs : Small S) :
    Calls Tryz.prog 12 #[staA S v, staA S u] w fun e w' => e = .returned (.bool true) ∧ Below w.heap.size w w' :=
  sameState_flat S.bud S.pools S.srv S.wts S.plan S.begun S.back _ _ _ _ v.po v.pc v.so v.sc v.wo v.wc v.to v.tc u.po u.pc u.so u.sc u.wo u.wc u.to u.tc w ⟨rfl, rfl, rfl, rfl⟩ ⟨hs.p, hs.s, hs.t, hs.l⟩ ⟨h1.p, h1.s, h1.t, h1.l⟩ ⟨h2.p, h2.s, h2.t, h2.l⟩
end Lw
end Go.Proofs.YtmmmjpkhnbfnbaaGreat
namespace Go.Proofs.YtmmmjpkhnbfnbaaGreat
open Go.RowKit
namespace Lw
open Co

abbrev bOw (v1 v2 v3 v4 : Value) : Obj := .cells #[v1, v2, v3, v4] 47
def mP (q : Int) : List Value := [.string ⟨#[]⟩, .int .i64 0, .int .i64 0, .int .i64 q]
def mV (q : Int) : List Value := [.int .i64 0, .string ⟨#[]⟩, .int .i64 q, .int .i64 0]
def mW (q : Int) : List Value := [.int .i64 q, .string ⟨#[]⟩]
def mT (q : Int) : List Value := [.int .i64 0, .string ⟨#[]⟩, .int .i64 q]
/-- the first so many elements of a block bear the mark -/
def MarkG (sz : Nat) (m : List Value) (cur : Array Value) (k : Nat) : Prop := ∀ j, j < k → ∀ (i : Nat) (x : Value), m[i]? = some x → cur[j * sz + i]? = some x
def FullG (ty : TypeId) (sz : Nat) (m : List Value) (w : World) (v : Value) : Prop :=
  v = .slice none 0 0 ∨ ∃ g cap cur, v = .slice (some ⟨g, 0, none⟩) cap cap ∧ cap ≤ maxLen ∧ w.heap[g]? = some (.cells cur ty (0, 0)) ∧ MarkG sz m cur cap
theorem FullG.keep {ty : TypeId} {sz : Nat} {m : List Value} {w w' : World} {v : Value} (h : FullG ty sz m w v) (hh : ∀ g, v.ownBlock = some g → w'.heap[g]? = w.heap[g]?) : FullG ty sz m w' v := by
  rcases h with h | ⟨g, cap, cur, h1, h2, h3, h4⟩
  · exact .inl h
  · exact .inr ⟨g, cap, cur, h1, h2, (hh g (by rw [h1]; rfl)).trans h3, h4⟩
theorem mark_zero (sz : Nat) (m : List Value) (cur : Array Value) : MarkG sz m cur 0 := fun j hj => by omega
theorem mark_4 {cur : Array Value} {k cap : Nat} {m0 m1 m2 m3 : Value} (h : MarkG 4 [m0, m1, m2, m3] cur k) (hc : cur.size = cap * 4) (hk : k < cap) :
    MarkG 4 [m0, m1, m2, m3] ((((cur.setIfInBounds (k * 4) m0).setIfInBounds (k * 4 + 1) m1).setIfInBounds (k * 4 + 2) m2).setIfInBounds (k * 4 + 3) m3) (k + 1) := by
  intro j hj i x hx
  have hi : i < 4 := (List.getElem?_eq_some_iff.1 hx).1
  have hsz : k * 4 + 3 < cur.size := by omega
  by_cases hjk : j < k
  · rw [Array.getElem?_setIfInBounds_ne (by omega), Array.getElem?_setIfInBounds_ne (by omega), Array.getElem?_setIfInBounds_ne (by omega), Array.getElem?_setIfInBounds_ne (by omega)]
    exact h j hjk i x hx
  · obtain rfl : j = k := by omega
    match i, hi, hx with
    | 0, _, hx => simp at hx; subst hx; simp only [Nat.add_zero]; rw [Array.getElem?_setIfInBounds_ne (by omega), Array.getElem?_setIfInBounds_ne (by omega), Array.getElem?_setIfInBounds_ne (by omega), Array.getElem?_setIfInBounds_self_of_lt (by omega)]
    | 1, _, hx => simp at hx; subst hx; rw [Array.getElem?_setIfInBounds_ne (by omega), Array.getElem?_setIfInBounds_ne (by omega), Array.getElem?_setIfInBounds_self_of_lt (by simp; omega)]
    | 2, _, hx => simp at hx; subst hx; rw [Array.getElem?_setIfInBounds_ne (by omega), Array.getElem?_setIfInBounds_self_of_lt (by simp; omega)]
    | 3, _, hx => simp at hx; subst hx; rw [Array.getElem?_setIfInBounds_self_of_lt (by simp; omega)]
theorem mark_3 {cur : Array Value} {k cap : Nat} {m0 m1 m2 : Value} (h : MarkG 3 [m0, m1, m2] cur k) (hc : cur.size = cap * 3) (hk : k < cap) :
    MarkG 3 [m0, m1, m2] (((cur.setIfInBounds (k * 3) m0).setIfInBounds (k * 3 + 1) m1).setIfInBounds (k * 3 + 2) m2) (k + 1) := by
  intro j hj i x hx
  have hi : i < 3 := (List.getElem?_eq_some_iff.1 hx).1
  have hsz : k * 3 + 2 < cur.size := by omega
  by_cases hjk : j < k
  · rw [Array.getElem?_setIfInBounds_ne (by omega), Array.getElem?_setIfInBounds_ne (by omega), Array.getElem?_setIfInBounds_ne (by omega)]
    exact h j hjk i x hx
  · obtain rfl : j = k := by omega
    match i, hi, hx with
    | 0, _, hx => simp at hx; subst hx; simp only [Nat.add_zero]; rw [Array.getElem?_setIfInBounds_ne (by omega), Array.getElem?_setIfInBounds_ne (by omega), Array.getElem?_setIfInBounds_self_of_lt (by omega)]
    | 1, _, hx => simp at hx; subst hx; rw [Array.getElem?_setIfInBounds_ne (by omega), Array.getElem?_setIfInBounds_self_of_lt (by simp; omega)]
    | 2, _, hx => simp at hx; subst hx; rw [Array.getElem?_setIfInBounds_self_of_lt (by simp; omega)]
theorem mark_2 {cur : Array Value} {k cap : Nat} {m0 m1 : Value} (h : MarkG 2 [m0, m1] cur k) (hc : cur.size = cap * 2) (hk : k < cap) :
    MarkG 2 [m0, m1] ((cur.setIfInBounds (k * 2) m0).setIfInBounds (k * 2 + 1) m1) (k + 1) := by
  intro j hj i x hx
  have hi : i < 2 := (List.getElem?_eq_some_iff.1 hx).1
  have hsz : k * 2 + 1 < cur.size := by omega
  by_cases hjk : j < k
  · rw [Array.getElem?_setIfInBounds_ne (by omega), Array.getElem?_setIfInBounds_ne (by omega)]
    exact h j hjk i x hx
  · obtain rfl : j = k := by omega
    match i, hi, hx with
    | 0, _, hx => simp at hx; subst hx; simp only [Nat.add_zero]; rw [Array.getElem?_setIfInBounds_ne (by omega), Array.getElem?_setIfInBounds_self_of_lt (by omega)]
    | 1, _, hx => simp at hx; subst hx; rw [Array.getElem?_setIfInBounds_self_of_lt (by simp; omega)]
theorem blkOw {w : World} {g : Nat} {v1 v2 v3 v4 : Value} (h : w.heap[g]? = some (bOw v1 v2 v3 v4)) : w.cell? ⟨g, 0, none⟩ = some v1 ∧ w.cell? ⟨g, 1, none⟩ = some v2 ∧ w.cell? ⟨g, 2, none⟩ = some v3 ∧ w.cell? ⟨g, 3, none⟩ = some v4 ∧ ∀ a, w.frozen? ⟨g, a, none⟩ = false := by
  refine ⟨?_, ?_, ?_, ?_, fun a => ?_⟩ <;> simp [World.cell?, World.frozen?, h]
theorem blkC {w : World} {g : Nat} {cur : Array Value} {t : TypeId} (h : w.heap[g]? = some (.cells cur t (0, 0))) (a : Nat) (ha : a < cur.size) : (∃ v, w.cell? ⟨g, a, none⟩ = some v) ∧ w.frozen? ⟨g, a, none⟩ = false := by
  refine ⟨⟨cur[a], ?_⟩, ?_⟩
  · simp [World.cell?, h, ha]
  · simp [World.frozen?, h]
theorem ownG_heap {w w' : World} {B : Nat} {e : TypeId} {size : Nat} {v : Value} {n : Nat} {xs : List Value} (h : w.ownsRow B e size v n xs) (hh : ∀ j, v.ownBlock = some j → w'.heap[j]? = w.heap[j]?) : w'.ownsRow B e size v n xs := by
  obtain ⟨hl, h⟩ := h
  refine ⟨hl, ?_⟩
  rcases h with h | ⟨g, cap, cur, h1, h2, hg, h4⟩
  · exact .inl h
  · exact .inr ⟨g, cap, cur, h1, h2, (hh g (by rw [h1]; rfl)).trans hg, h4⟩
def SameW (w w' : World) : Prop := w'.os = w.os ∧ w'.tape = w.tape ∧ w'.output = w.output
theorem SameW.trans {a b c : World} (h : SameW a b) (k : SameW b c) : SameW a c := ⟨k.1.trans h.1, k.2.1.trans h.2.1, k.2.2.trans h.2.2⟩
theorem sameW_set (w : World) (a : Addr) (v : Value) : SameW w (w.setCell a v) := by
  have h := (Below.refl 0 w).setCell (Nat.zero_le a.block) v
  exact ⟨h.os, h.tape, h.output⟩
theorem info_ps : (Tryz.prog.info? 29).map (fun i => (i.zero, i.size, i.bytes)) = some (some (.slice none 0 0), 1, 24) := by kernel_rfl
theorem info_vs : (Tryz.prog.info? 32).map (fun i => (i.zero, i.size, i.bytes)) = some (some (.slice none 0 0), 1, 24) := by kernel_rfl
theorem info_ws : (Tryz.prog.info? 33).map (fun i => (i.zero, i.size, i.bytes)) = some (some (.slice none 0 0), 1, 24) := by kernel_rfl
theorem info_ts : (Tryz.prog.info? 34).map (fun i => (i.zero, i.size, i.bytes)) = some (some (.slice none 0 0), 1, 24) := by kernel_rfl
end Lw
end Go.Proofs.YtmmmjpkhnbfnbaaGreat
