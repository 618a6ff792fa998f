
import Derived.Test.YthkilnhdhacpaaaCoE
namespace Go.Proofs.Ythkilnhdhacpaaa
open Go.RowKit
namespace Co

def namedF (kind : Nat) : List ByteArray → Option Ln
  | [] => none
  | nm :: r => if isNm nm = true then
      (match r with
       | [] => some ⟨kind, nm, ⟨#[]⟩, [], 0⟩
       | fw :: r2 => if (fw.toList == [102, 114, 111, 109]) = true then
           (match r2 with
            | [] => none
            | b :: r3 => if isNm b = true then (setsF r3).map (fun ss => ⟨kind, nm, b, ss, 0⟩) else none)
          else (setsF (fw :: r2)).map (fun ss => ⟨kind, nm, ⟨#[]⟩, ss, 0⟩))
    else none
def budF : List ByteArray → Option Ln
  | [a] => (numF a).map (fun n => ⟨1, ⟨#[]⟩, ⟨#[]⟩, [(3, n)], 0⟩)
  | _ => none
def parseF : List ByteArray → Option Ln
  | [] => none
  | f0 :: rest => if (f0.toList == [98, 117, 100, 103, 101, 116]) = true then budF rest
      else if (f0.toList == [98, 97, 115, 101]) = true then namedF 2 rest
      else if (f0.toList == [112, 111, 111, 108]) = true then namedF 3 rest else none

theorem row_new (w : World) (cs : List Value) (t : TypeId) (n : Nat) {g : Nat} (hg : g = w.heap.size) : RowAt (w.alloc (.cells cs.toArray t)) (.slice (some ⟨g, 0, none⟩) n n) n cs := by
  subst hg
  refine ⟨_, _, rfl, Nat.le_refl _, .inr ⟨_, _, rfl, by simp, fun j x hx => ?_⟩⟩
  rw [Nat.zero_add, World.cell?_alloc_new]
  simpa using hx
theorem heap_alloc_at (w : World) (o : Obj) {k : Nat} (hk : k = w.heap.size) : (w.alloc o).heap[k]? = some o := by
  subst hk
  show (w.heap.push o)[w.heap.size]? = some o
  simp
theorem heap_alloc_lt (w : World) (o : Obj) {k : Nat} (hk : k < w.heap.size) : (w.alloc o).heap[k]? = w.heap[k]? := Below.heap_alloc w o k hk
/-- a line's value -/
abbrev lnA (x0 x1 : Int) (s2 s3 : ByteArray) (a4 : Option Addr) (n4 c4 : Nat) : Value := .agg #[.int .i64 x0, .int .i64 x1, .string s2, .string s3, .slice a4 n4 c4]
theorem namedF_bad {kind : Nat} {nm : ByteArray} {r : List ByteArray} (h : isNm nm = false) : namedF kind (nm :: r) = none := by simp [namedF, h]
theorem namedF_one {kind : Nat} {nm : ByteArray} (h : isNm nm = true) : namedF kind [nm] = some ⟨kind, nm, ⟨#[]⟩, [], 0⟩ := by simp [namedF, h]
theorem namedF_plain {kind : Nat} {nm fw : ByteArray} {r : List ByteArray} (h : isNm nm = true) (hf : (fw.toList == [102, 114, 111, 109]) = false) : namedF kind (nm :: fw :: r) = (setsF (fw :: r)).map (fun ss => ⟨kind, nm, ⟨#[]⟩, ss, 0⟩) := by
  simp [namedF, h, hf]
theorem namedF_f0 {kind : Nat} {nm fw : ByteArray} (h : isNm nm = true) (hf : (fw.toList == [102, 114, 111, 109]) = true) : namedF kind [nm, fw] = none := by
  simp [namedF, h, hf]
theorem namedF_f1 {kind : Nat} {nm fw b : ByteArray} {r : List ByteArray} (h : isNm nm = true) (hf : (fw.toList == [102, 114, 111, 109]) = true) (hb : isNm b = false) : namedF kind (nm :: fw :: b :: r) = none := by
  simp [namedF, h, hf, hb]
theorem namedF_f2 {kind : Nat} {nm fw b : ByteArray} {r : List ByteArray} (h : isNm nm = true) (hf : (fw.toList == [102, 114, 111, 109]) = true) (hb : isNm b = true) : namedF kind (nm :: fw :: b :: r) = (setsF r).map (fun ss => ⟨kind, nm, b, ss, 0⟩) := by
  simp [namedF, h, hf, hb]

end Co
end Go.Proofs.Ythkilnhdhacpaaa
