
import Derived.Test.YtlndoeoniicijaaCdD
namespace Go.Proofs.Ytlndoeoniicijaa
open Go.RowKit
namespace Lw
open Co

abbrev bPair (p : Value) (b : Int) (v1 v2 v3 v4 : Value) (x y : Bool) (nx hb : Int) (hv : Value) : Obj := .cells #[p, .int .i64 b, v1, v2, v3, v4, .bool x, .bool y, .int .i64 nx, .int .i64 hb, hv] 37
/-- what begun answers -/
def BegG (a : Ans) (w w' : World) (e : Ending) : Prop :=
  ∃ gx, e = .returned (.tuple #[.pointer (some ⟨gx, 0, none⟩), .bool true]) ∧ w.heap.size ≤ gx ∧ Below w.heap.size w w' ∧
    ((a.err ≠ 0 ∧ ∃ b v1 nx, w'.heap[gx]? = some (bPair (.pointer none) b v1 (.slice none 0 0) (.slice none 0 0) (.slice none 0 0) false false nx 0 (.slice none 0 0))) ∨
     (a.err = 0 ∧ ∃ gp F vo vc nx, w'.heap[gx]? = some (bPair (.pointer (some ⟨gp, 0, none⟩)) a.tab.1 (.slice vo a.tab.2.length vc) (.slice none 0 0) (.slice none 0 0) (.slice none 0 0) false false nx 0 (.slice none 0 0)) ∧
       DeskAt w' gp (staNew a) ⟨0, 0, []⟩ F ∧ (∀ y, F y → w.heap.size ≤ y) ∧ ¬ F gx ∧ w'.ownsRow 0 77 4 (.slice vo a.tab.2.length vc) a.tab.2.length (flatP a.tab.2) ∧ (∀ g, (Value.slice vo a.tab.2.length vc).ownBlock = some g → ¬ F g ∧ w.heap.size ≤ g)))

set_option maxRecDepth 20000 in
set_option maxHeartbeats 2000000 in
theorem begun_any (s : ByteArray) (w : World) (hs : s.size ≤ maxLen) :
    Calls Try.prog 4 #[.string s] w fun e w' => BegG (ans s) w w' e := by
  have HN := hideIt (new_any s w hs)
  have HR := hideIt (fun w1 => rnew_any s w1 hs)
  have HOK := hideIt (ans_ok s)
  obtain ⟨⟨⟨b, ps⟩, er, pl⟩, ha⟩ : ∃ a, ans s = a := ⟨_, rfl⟩
  rw [ha] at HN HR HOK ⊢
  simp only at HOK
  unfold maxLen at hs
  clear ha
  go_enter Try.func4, Try.ntmps4
  go_wp2_with fail
  refine HN.out.mono ?_
  rintro e w1 (⟨her, rfl, hb1⟩ | ⟨her, gp, F, rfl, hd, hF, hb1⟩)
  · simp only at her ⊢
    have HE := hideIt her
    have herb : ((er : Int) != 0) = true := by rw [bne_iff_ne]; omega
    have HB1 := hideIt hb1
    clear her hb1 HN
    go_wp2_with fail
    refine (HR.out w1).mono ?_
    rintro e w2 ⟨vo, vc, nx, rfl, hown, hb2⟩
    simp only at hown ⊢
    obtain ⟨m, hm⟩ : ∃ m, ps.length = m := ⟨_, rfl⟩
    rw [hm]
    have hbb := nx_trans HB1.out hb2
    have K : Hid (Below w.heap.size w ((w2.alloc (bWld b (.slice vo m vc) nx)).alloc (bPair (.pointer none) b (.slice vo m vc) (.slice none 0 0) (.slice none 0 0) (.slice none 0 0) false false nx 0 (.slice none 0 0))) ∧ w.heap.size ≤ w2.heap.size) := ⟨(hbb.alloc hbb.size _).alloc (by simp; have := hbb.size; omega) _, hbb.size⟩
    clear hown hb2 hbb hm
    go_wp2_with fail
    go_ret2
    refine ⟨w2.heap.size + 1, rfl, by have := K.out.2; omega, K.out.1, .inl ⟨HE.out, b, .slice vo m vc, nx, ?_⟩⟩
    exact heap_alloc_at _ _ (by simp)
  · simp only at her
    subst her
    have hpl : pl = 0 := HOK.out rfl
    subst hpl
    have HD : Hid (DeskAt w1 gp (staNew ⟨(b, ps), 0, 0⟩) ⟨0, 0, []⟩ F ∧ (∀ y, F y → w.heap.size ≤ y) ∧ Below w.heap.size w w1) := ⟨hd, hF, hb1⟩
    clear hd hF hb1 HN
    go_wp2_with fail
    refine (HR.out w1).mono ?_
    rintro e w2 ⟨vo, vc, nx, rfl, hown, hb2⟩
    simp only at hown ⊢
    obtain ⟨m, hm⟩ : ∃ m, ps.length = m := ⟨_, rfl⟩
    rw [hm] at hown ⊢
    have hbb := nx_trans HD.out.2.2 hb2
    have hbf : Below w2.heap.size w2 ((w2.alloc (bWld b (.slice vo m vc) nx)).alloc (bPair (.pointer (some ⟨gp, 0, none⟩)) b (.slice vo m vc) (.slice none 0 0) (.slice none 0 0) (.slice none 0 0) false false nx 0 (.slice none 0 0))) := nx_trans (nx_alloc _ _) (nx_alloc _ _)
    have K : Hid (Below w.heap.size w ((w2.alloc (bWld b (.slice vo m vc) nx)).alloc (bPair (.pointer (some ⟨gp, 0, none⟩)) b (.slice vo m vc) (.slice none 0 0) (.slice none 0 0) (.slice none 0 0) false false nx 0 (.slice none 0 0))) ∧ w.heap.size ≤ w2.heap.size ∧ ps.length = m ∧
        DeskAt ((w2.alloc (bWld b (.slice vo m vc) nx)).alloc (bPair (.pointer (some ⟨gp, 0, none⟩)) b (.slice vo m vc) (.slice none 0 0) (.slice none 0 0) (.slice none 0 0) false false nx 0 (.slice none 0 0))) gp (staNew ⟨(b, ps), 0, 0⟩) ⟨0, 0, []⟩ F ∧ (∀ y, F y → y < w2.heap.size) ∧
        ((w2.alloc (bWld b (.slice vo m vc) nx)).alloc (bPair (.pointer (some ⟨gp, 0, none⟩)) b (.slice vo m vc) (.slice none 0 0) (.slice none 0 0) (.slice none 0 0) false false nx 0 (.slice none 0 0))).ownsRow 0 77 4 (.slice vo m vc) m (flatP ps) ∧ (∀ g, (Value.slice vo m vc).ownBlock = some g → ¬ F g ∧ w.heap.size ≤ g)) := by
      refine ⟨nx_trans hbb hbf, hbb.size, hm, HD.out.1.keep (G := fun _ => False) (Chg.of_below (nx_trans hb2 hbf)) (fun _ _ h => h), fun y hy => Nat.lt_of_lt_of_le (HD.out.1.lt y hy) hb2.size, own_mono (own_below hown hbf) (Nat.zero_le _), fun g hg => ?_⟩
      have h1 := (hown.lt g hg).1
      refine ⟨fun h => ?_, Nat.le_trans HD.out.2.2.size h1⟩
      have := HD.out.1.lt g h
      omega
    clear hown hb2 hbb hm hbf
    go_wp2_with fail
    go_ret2
    refine ⟨w2.heap.size + 1, rfl, by have := K.out.2.1; omega, K.out.1, .inr ⟨rfl, gp, F, vo, vc, nx, ?_, K.out.2.2.2.1, HD.out.2.1, fun h => ?_, ?_, ?_⟩⟩
    · simp only [K.out.2.2.1]; exact heap_alloc_at _ _ (by simp)
    · have := K.out.2.2.2.2.1 _ h; omega
    · simp only [K.out.2.2.1]; exact K.out.2.2.2.2.2.1
    · simp only [K.out.2.2.1]; exact K.out.2.2.2.2.2.2
end Lw
end Go.Proofs.Ytlndoeoniicijaa
