
import Derived.Test.YthkilnhdhacpaaaCoQ
namespace Go.Proofs.Ythkilnhdhacpaaa
open Go.RowKit
namespace Lw
open Co

/-- servers, those who wait, steps -/
structure Srv where
  id : Int
  pool : ByteArray
  far : Int
  client : Int
structure Wtr where
  client : Int
  pool : ByteArray
structure Stp where
  kind : Int
  name : ByteArray
  n : Int
def fSv (x : Srv) : List Value := [.int .i64 x.id, .string x.pool, .int .i64 x.far, .int .i64 x.client]
def fWt (x : Wtr) : List Value := [.int .i64 x.client, .string x.pool]
def fSt (x : Stp) : List Value := [.int .i64 x.kind, .string x.name, .int .i64 x.n]
def flatV (l : List Srv) : List Value := l.flatMap fSv
def flatW (l : List Wtr) : List Value := l.flatMap fWt
def flatT (l : List Stp) : List Value := l.flatMap fSt
theorem fm_at {α : Type} (f : α → List Value) (k : Nat) (hf : ∀ x, (f x).length = k) : ∀ (l : List α) (i : Nat) (x : α), l[i]? = some x → ∀ j, j < k → (l.flatMap f)[i * k + j]? = (f x)[j]?
  | [], i, x, h, _, _ => by simp at h
  | y :: r, 0, x, h, j, hj => by
    simp at h; subst h
    rw [List.flatMap_cons, Nat.zero_mul, Nat.zero_add, List.getElem?_append_left (by rw [hf]; exact hj)]
  | y :: r, i + 1, x, h, j, hj => by
    have ih := fm_at f k hf r i x (by simpa using h) j hj
    rw [List.flatMap_cons, List.getElem?_append_right (by rw [hf, Nat.succ_mul]; omega), hf, ← ih]
    congr 1
    rw [Nat.succ_mul]; omega
theorem fm_len {α : Type} (f : α → List Value) (k : Nat) (hf : ∀ x, (f x).length = k) (l : List α) : (l.flatMap f).length = l.length * k := by
  induction l with
  | nil => simp
  | cons x r ih => rw [List.flatMap_cons, List.length_append, ih, hf, List.length_cons, Nat.succ_mul]; omega
theorem fm_one {α : Type} (f : α → List Value) (hf : ∀ x, ∀ u ∈ f x, u.oneCell' = true) (l : List α) : ∀ u ∈ l.flatMap f, u.oneCell' = true := by
  intro u hu
  obtain ⟨x, _, hx⟩ := List.mem_flatMap.1 hu
  exact hf x u hx
theorem row_get {α : Type} {f : α → List Value} {k : Nat} (hf : ∀ x, (f x).length = k) {w : World} {ao : Option Addr} {n m cap : Nat} {l : List α} (h : RowAt w (.slice ao n cap) m (l.flatMap f)) {i : Nat} {x : α} (hi : l[i]? = some x) (hk : 0 < k) :
    ∃ b off, ao = some ⟨b, off, none⟩ ∧ b < w.heap.size ∧ ∀ j v, (f x)[j]? = some v → w.cell? ⟨b, off + (i * k + j), none⟩ = some v := by
  have h0 : (l.flatMap f)[i * k + 0]? = some ((f x)[0]'(by rw [hf]; exact hk)) := by
    rw [fm_at f k hf l i x hi 0 hk, List.getElem?_eq_getElem]
  obtain ⟨b, off, e, hb, _⟩ := h.at h0
  refine ⟨b, off, e, hb, fun j v hj => ?_⟩
  have hjk : j < k := by rw [← hf x]; exact (List.getElem?_eq_some_iff.1 hj).1
  obtain ⟨b', off', e', _, g⟩ := h.at ((fm_at f k hf l i x hi j hjk).trans hj)
  rw [e] at e'
  obtain ⟨rfl, rfl⟩ : b = b' ∧ off = off' := by simpa using e'
  exact g
theorem sv_at {w : World} {ao : Option Addr} {n m cap : Nat} {l : List Srv} (h : RowAt w (.slice ao n cap) m (flatV l)) {i : Nat} {x : Srv} (hi : l[i]? = some x) :
    ∃ b off, ao = some ⟨b, off, none⟩ ∧ b < w.heap.size ∧ w.cell? ⟨b, off + i * 4, none⟩ = some (.int .i64 x.id) ∧ w.cell? ⟨b, off + i * 4 + 1, none⟩ = some (.string x.pool) ∧ w.cell? ⟨b, off + i * 4 + 2, none⟩ = some (.int .i64 x.far) ∧ w.cell? ⟨b, off + i * 4 + 3, none⟩ = some (.int .i64 x.client) := by
  obtain ⟨b, off, e, hb, g⟩ := row_get (f := fSv) (k := 4) (fun _ => rfl) h hi (by omega)
  exact ⟨b, off, e, hb, g 0 _ rfl, g 1 _ rfl, g 2 _ rfl, g 3 _ rfl⟩
theorem wt_at {w : World} {ao : Option Addr} {n m cap : Nat} {l : List Wtr} (h : RowAt w (.slice ao n cap) m (flatW l)) {i : Nat} {x : Wtr} (hi : l[i]? = some x) :
    ∃ b off, ao = some ⟨b, off, none⟩ ∧ b < w.heap.size ∧ w.cell? ⟨b, off + i * 2, none⟩ = some (.int .i64 x.client) ∧ w.cell? ⟨b, off + i * 2 + 1, none⟩ = some (.string x.pool) := by
  obtain ⟨b, off, e, hb, g⟩ := row_get (f := fWt) (k := 2) (fun _ => rfl) h hi (by omega)
  exact ⟨b, off, e, hb, g 0 _ rfl, g 1 _ rfl⟩
theorem st_at {w : World} {ao : Option Addr} {n m cap : Nat} {l : List Stp} (h : RowAt w (.slice ao n cap) m (flatT l)) {i : Nat} {x : Stp} (hi : l[i]? = some x) :
    ∃ b off, ao = some ⟨b, off, none⟩ ∧ b < w.heap.size ∧ w.cell? ⟨b, off + i * 3, none⟩ = some (.int .i64 x.kind) ∧ w.cell? ⟨b, off + i * 3 + 1, none⟩ = some (.string x.name) ∧ w.cell? ⟨b, off + i * 3 + 2, none⟩ = some (.int .i64 x.n) := by
  obtain ⟨b, off, e, hb, g⟩ := row_get (f := fSt) (k := 3) (fun _ => rfl) h hi (by omega)
  exact ⟨b, off, e, hb, g 0 _ rfl, g 1 _ rfl, g 2 _ rfl⟩

/-- only blocks of F, and new ones, have changed -/
structure Chg (F : Nat → Prop) (w w' : World) : Prop where
  os : w'.os = w.os
  tape : w'.tape = w.tape
  output : w'.output = w.output
  size : w.heap.size ≤ w'.heap.size
  block : ∀ b, b < w.heap.size → ¬ F b → w'.heap[b]? = w.heap[b]?
theorem Chg.of_below {w w' : World} {F : Nat → Prop} (h : Below w.heap.size w w') : Chg F w w' := ⟨h.os, h.tape, h.output, h.size, fun b hb _ => h.block b hb⟩
theorem Chg.refl (F : Nat → Prop) (w : World) : Chg F w w := ⟨rfl, rfl, rfl, Nat.le_refl _, fun _ _ _ => rfl⟩
theorem Chg.trans {F G : Nat → Prop} {a b c : World} (h : Chg F a b) (k : Chg G b c) (hG : ∀ x, G x → F x ∨ a.heap.size ≤ x) : Chg F a c :=
  ⟨k.os.trans h.os, k.tape.trans h.tape, k.output.trans h.output, Nat.le_trans h.size k.size, fun x hx hF => (k.block x (Nat.lt_of_lt_of_le hx h.size) (fun hg => (hG x hg).elim hF (fun h1 => by omega))).trans (h.block x hx hF)⟩
theorem Chg.mono {F G : Nat → Prop} {a b : World} (h : Chg F a b) (hF : ∀ x, F x → G x) : Chg G a b := ⟨h.os, h.tape, h.output, h.size, fun x hx hg => h.block x hx (fun hf => hg (hF x hf))⟩
theorem Chg.below {F : Nat → Prop} {a b : World} (h : Chg F a b) {B : Nat} (hB : B ≤ a.heap.size) (hF : ∀ x, F x → B ≤ x) : Below B a b :=
  ⟨h.os, h.tape, h.output, h.size, fun x hx => h.block x (Nat.lt_of_lt_of_le hx hB) (fun hf => by have := hF x hf; omega)⟩
theorem Chg.set {F : Nat → Prop} (w : World) (g a : Nat) (v : Value) (hF : F g) : Chg F w (w.setCell ⟨g, a, none⟩ v) := by
  have h := (Below.refl 0 w).setCell (Nat.zero_le (⟨g, a, none⟩ : Addr).block) v
  refine ⟨h.os, h.tape, h.output, h.size, fun b hb hb2 => ?_⟩
  exact Below.heap_setCell _ _ _ _ (fun e => hb2 (by rw [show b = g from e]; exact hF))
end Lw
end Go.Proofs.Ythkilnhdhacpaaa
