
import Derived.Test.YtlndoeoniicijaaCoV
namespace Go.Proofs.Ytlndoeoniicijaa
open Go.RowKit
namespace Co

/-- what formed answers -/
def RMade (o : Option Ln) (pl : Int) (w w' : World) (e : Ending) : Prop :=
  (o = none ∧ ∃ wd nm fr ko nk kc vo nv vc p, e = .returned (.tuple #[rlA wd nm fr ko nk kc vo nv vc p, .bool false]) ∧ Below w.heap.size w w') ∨
  (∃ l ko kc vo vc, o = some l ∧ e = .returned (.tuple #[rlA (kwK l.kind) l.name l.frm ko (keysOf l).length kc vo l.sets.length vc pl, .bool true]) ∧ RowAt w' (.slice ko (keysOf l).length kc) (keysOf l).length (ints (keysOf l)) ∧ RowAt w' (.slice vo l.sets.length vc) l.sets.length (ints (valsOf l)) ∧ FrI w' ko ∧ FrI w' vo ∧ Below w.heap.size w w')
abbrev bZ6 : Obj := .cells #[.string ⟨#[]⟩, .string ⟨#[]⟩, .string ⟨#[]⟩, .slice none 0 0, .slice none 0 0, .int .i64 0] 93

set_option maxRecDepth 20000 in
set_option maxHeartbeats 4000000 in
theorem formed_bud (r : List ByteArray) (pl : Int) (ao : Option Addr) (cap n : Nat) (w : World) (hr : RowAt w (.slice ao n cap) n (strs (sBudget :: r))) (hn : (sBudget :: r).length = n) (hn1 : n ≤ 1001) (hsm : ∀ p ∈ r, p.size ≤ 1000) :
    Calls Try.prog 43 #[.slice ao n cap, .int .i64 pl] w fun e w' => RMade (budF r) pl w w' e := by
  obtain ⟨bl, off, rfl, hbl, hc⟩ := hr.at (j := 0) (x := .string sBudget) rfl
  rw [Nat.add_zero] at hc
  have hpos : (0 : Int) < (n : Int) := by simp at hn; omega
  have hca : ∀ o, (w.alloc o).cell? ⟨bl, off, none⟩ = some (.string sBudget) := fun o => ((nx_alloc w o).cell (p := ⟨bl, off, none⟩) hbl).trans hc
  by_cases h2 : n = 2
  · obtain ⟨a, rfl⟩ : ∃ a, r = [a] := by
      match r, hn with
      | [], h => simp at h; omega
      | [a], _ => exact ⟨a, rfl⟩
      | a :: b :: c, h => simp at h; omega
    obtain ⟨bl', off', e1, _, hc1⟩ := hr.at (j := 1) (x := .string a) rfl
    obtain ⟨rfl, rfl⟩ : bl = bl' ∧ off = off' := by simpa using e1
    have hcb : ∀ o1 o2, ((w.alloc o1).alloc o2).cell? ⟨bl, off + 1, none⟩ = some (.string a) := fun o1 o2 => ((nx_trans (nx_alloc w o1) (nx_alloc _ o2)).cell (p := ⟨bl, off + 1, none⟩) hbl).trans hc1
    have HNU := hideIt (fun w0 => number_any a w0 (hsm a (by simp)))
    have HB : Hid (budF [a] = (numF a).map (fun n => ⟨1, ⟨#[]⟩, ⟨#[]⟩, [(3, n)], 0⟩)) := rfl
    have HR0 := hideIt (fun (h : numF a = none) => (show numR a = -1 by rw [numR, h]))
    have HR1 := hideIt (fun x (h : numF a = some x) => (show numR a = (x : Int) by rw [numR, h]))
    subst h2
    clear hr hsm hn hc hc1 e1
    cases hnf : numF a with
    | none =>
      have HX : Hid (budF [a] = none) := by show _ = _; rw [HB.out, hnf]; rfl
      have HN := hideIt (HR0.out hnf)
      clear hnf
      go_enter Try.func43, Try.ntmps43
      go_wp2_with fail
      refine (HNU.out _).mono ?_; rintro e w2 ⟨rfl, hw⟩
      rw [hw, HN.out]
      clear hw
      go_wp2_with fail
      refine bodyPost_ret (v := .tuple #[rlA sBudget ⟨#[]⟩ ⟨#[]⟩ none 0 0 (some ⟨w.heap.size + 2, 0, none⟩) 1 1 pl, .bool false]) (by simp [results, Try.results43, go_sem]) rfl (.inl ⟨HX.out, _, _, _, _, _, _, _, _, _, _, rfl, ?_⟩)
      exact nx_trans (nx_trans (nx_alloc _ _) (nx_alloc _ _)) (nx_alloc _ _)
    | some x =>
      have HX : Hid (budF [a] = some ⟨1, ⟨#[]⟩, ⟨#[]⟩, [(3, x)], 0⟩) := by show _ = _; rw [HB.out, hnf]; rfl
      have HN := hideIt (HR1.out x hnf)
      clear hnf
      go_enter Try.func43, Try.ntmps43
      go_wp2_with fail
      refine (HNU.out _).mono ?_; rintro e w2 ⟨rfl, hw⟩
      rw [hw, HN.out]
      clear hw
      go_wp2_with fail
      refine bodyPost_ret (v := .tuple #[rlA sBudget ⟨#[]⟩ ⟨#[]⟩ none 0 0 (some ⟨w.heap.size + 2, 0, none⟩) 1 1 pl, .bool true]) (by simp [results, Try.results43, go_sem]) rfl (.inr ⟨_, _, _, _, _, HX.out, rfl, ?_, ?_, ?_, ?_, ?_⟩)
      · exact row_nil _ _ _
      · exact row_new _ [.int .i64 (x : Int)] _ 1 (by simp)
      · intro b o e; cases e
      · intro b o e
        simp only [Option.some.injEq, Addr.mk.injEq] at e
        obtain ⟨rfl, _⟩ := e
        exact ⟨_, heap_alloc_at' _ _ (by simp)⟩
      · exact nx_trans (nx_trans (nx_alloc _ _) (nx_alloc _ _)) (nx_alloc _ _)
  · have h2b : ((n : Int) != 2) = true := by rw [bne_iff_ne]; omega
    have HX : Hid (budF r = none) := by
      show _ = _
      match r, hn with
      | [], _ => rfl
      | [a], h => simp at h; omega
      | a :: b :: c, _ => rfl
    clear hr hsm hn hc h2
    go_enter Try.func43, Try.ntmps43
    go_wp2_with fail
    refine bodyPost_ret (v := .tuple #[rlA sBudget ⟨#[]⟩ ⟨#[]⟩ none 0 0 none 0 0 pl, .bool false]) (by simp [results, Try.results43, go_sem]) rfl (.inl ⟨HX.out, _, _, _, _, _, _, _, _, _, _, rfl, ?_⟩)
    exact nx_trans (nx_alloc _ _) (nx_alloc _ _)

set_option maxRecDepth 20000 in
set_option maxHeartbeats 4000000 in
theorem formed_bad (wd : ByteArray) (r : List ByteArray) (pl : Int) (ao : Option Addr) (cap n : Nat) (w : World) (hr : RowAt w (.slice ao n cap) n (strs (wd :: r))) (hn : (wd :: r).length = n) (hn1 : n ≤ 1001)
    (hB : (wd.toList == [98, 117, 100, 103, 101, 116]) = false) (hbad : ((wd.toList == [98, 97, 115, 101]) = false ∧ (wd.toList == [112, 111, 111, 108]) = false) ∨ n < 2) (o : Option Ln) (ho : o = none) :
    Calls Try.prog 43 #[.slice ao n cap, .int .i64 pl] w fun e w' => RMade o pl w w' e := by
  have HX := hideIt ho
  obtain ⟨bl, off, rfl, hbl, hc⟩ := hr.at (j := 0) (x := .string wd) rfl
  rw [Nat.add_zero] at hc
  have hpos : (0 : Int) < (n : Int) := by simp at hn; omega
  have hca : ∀ o, (w.alloc o).cell? ⟨bl, off, none⟩ = some (.string wd) := fun o => ((nx_alloc w o).cell (p := ⟨bl, off, none⟩) hbl).trans hc
  clear hr hn hc ho
  rcases hbad with ⟨hA, hP⟩ | hlt
  · go_enter Try.func43, Try.ntmps43
    go_wp2_with fail
    refine bodyPost_ret (v := .tuple #[rlA wd ⟨#[]⟩ ⟨#[]⟩ none 0 0 none 0 0 pl, .bool false]) (by simp [results, Try.results43, go_sem]) rfl (.inl ⟨HX.out, _, _, _, _, _, _, _, _, _, _, rfl, ?_⟩)
    exact nx_trans (nx_alloc _ _) (nx_alloc _ _)
  · have hlti : (n : Int) < 2 := by omega
    cases hA : wd.toList == [98, 97, 115, 101] <;> cases hP : wd.toList == [112, 111, 111, 108]
    all_goals
      go_enter Try.func43, Try.ntmps43
      go_wp2_with fail
      refine bodyPost_ret (v := .tuple #[rlA wd ⟨#[]⟩ ⟨#[]⟩ none 0 0 none 0 0 pl, .bool false]) (by simp [results, Try.results43, go_sem]) rfl (.inl ⟨HX.out, _, _, _, _, _, _, _, _, _, _, rfl, ?_⟩)
      exact nx_trans (nx_alloc _ _) (nx_alloc _ _)
end Co
end Go.Proofs.Ytlndoeoniicijaa
