import Derived.Test.YtohbonfngeblkaaGreatMaAb
import Derived.Test.YtohbonfngeblkaaGreatMaAc
import Derived.Test.YtohbonfngeblkaaGreatMaW
import Derived.Test.YtohbonfngeblkaaGreatMaQ
namespace Go.Proofs.YtohbonfngeblkaaGreat
open Go.RowKit
namespace Co
theorem last_mem {ps : List Pl} (h : ps ≠ []) : ∃ q ∈ ps, q.nm = lastN ps := by
  unfold lastN
  rw [List.getLast?_eq_some_getLast h]
  exact ⟨_, List.getLast_mem h, rfl⟩
end Co
end Go.Proofs.YtohbonfngeblkaaGreat
namespace Go.Proofs.YtohbonfngeblkaaGreat
open Go.RowKit
namespace Lw
open Co
theorem rdC_len : ∀ (ps : List ByteArray) (i : Nat) (acc : List Ln), (rdC i acc ps).lines.length ≤ acc.length + ps.length
  | [], i, acc => by
    rw [rdC]
    split <;> simp
  | p :: r, i, acc => by
    rw [rdC]
    split
    · have := rdC_len r (i + 1) acc
      simp; omega
    · split
      · simp
      · split
        · rename_i l _ _
          have := rdC_len r (i + 1) (acc ++ [{ l with place := i + 1 }])
          simp at this ⊢; omega
        · simp
theorem tabC_len (all : List Ln) : ∀ (ls : List Ln) (x : Int × List Pl), (ls.foldl (stC all) x).2.length ≤ x.2.length + ls.length
  | [], x => by simp
  | l :: r, x => by
    have := tabC_len all r (stC all x l)
    rw [List.foldl_cons]
    have h : (stC all x l).2.length ≤ x.2.length + 1 := by
      unfold stC
      split
      · simp
      · split
        · simp [insP_len]
        · omega
    simp; omega
theorem ans_len (s : ByteArray) : (ans s).tab.2.length ≤ 1001 := by
  unfold ans
  split
  · simp
  · split
    · simp
    · split
      · simp
      · rename_i h _ _
        have h1 := tabC_len (rd s).lines (rd s).lines (0, [])
        have h2 : (rd s).lines.length ≤ 0 + (pieces s 10).length := rdC_len _ _ _
        have h3 := pieces_len s 10
        have h4 : (tabC (rd s).lines).2.length ≤ 0 + (rd s).lines.length := h1
        simp only
        omega
theorem ans_ok (s : ByteArray) (h : (ans s).err = 0) : (ans s).at' = 0 := by
  unfold ans at h ⊢
  split at h
  · simp at h
  · rename_i h0
    rw [if_neg h0]
    split at h
    · rename_i h1; exact absurd h h1
    · rename_i h1
      rw [if_neg h1]
      split at h
      · rename_i h2; exact absurd h h2
      · rename_i h2; rw [if_neg h2]
theorem ans_bad (s : ByteArray) (h : (ans s).err ≠ 0) : (ans s).tab = (0, []) := by
  unfold ans at h ⊢
  split at h
  · rename_i h0; rw [if_pos h0]
  · rename_i h0
    rw [if_neg h0]
    split at h
    · rename_i h1; rw [if_pos h1]
    · rename_i h1
      rw [if_neg h1]
      split at h
      · rename_i h2; rw [if_pos h2]
      · exact absurd rfl h
abbrev zDesk : Obj := .cells #[.int .i64 0, .slice none 0 0, .slice none 0 0, .slice none 0 0, .int .i64 0] 78
set_option maxRecDepth 20000 in
set_option maxHeartbeats 2000000 in
theorem open_any (b : Int) (ps : List Pl) (vo : Option Addr) (n vc : Nat) (w : World) (hr : RowAt w (.slice vo n vc) n (flatP ps)) (hnil : vo = none → vc = 0) (hn : ps.length = n) (hq : n ≤ 1099511627776) :
    Calls Tryz.prog 50 #[.agg #[.int .i64 b, .slice vo n vc]] w fun e w' => ∃ po pc, e = .returned (.agg #[.int .i64 b, .slice po n pc, .slice none 0 0, .slice none 0 0, .int .i64 0]) ∧ w'.ownsRow w.heap.size 75 4 (.slice po n pc) n (flatP ps) ∧ Below w.heap.size w w' := by
  have hb0 : Below w.heap.size w ((w.alloc (bTab b (.slice vo n vc))).alloc zDesk) := nx_trans (nx_alloc _ _) (nx_alloc _ _)
  have HC := hideIt (copy_any b ps vo n vc ((w.alloc (bTab b (.slice vo n vc))).alloc zDesk) (hr.nx hb0) hnil hn hq)
  have HZ : Hid (Below w.heap.size w ((w.alloc (bTab b (.slice vo n vc))).alloc zDesk) ∧ ((w.alloc (bTab b (.slice vo n vc))).alloc zDesk).heap[w.heap.size + 1]? = some zDesk) := ⟨hb0, heap_alloc_at _ _ (by simp)⟩
  clear hr hnil hn hq hb0
  go_enter Tryz.func50, Tryz.ntmps50
  go_wp2_with fail
  refine HC.out.mono ?_
  rintro e w1 ⟨po, pc, rfl, hown, hb1⟩
  have hz : w1.heap[w.heap.size + 1]? = some zDesk := (hb1.block _ (by simp)).trans HZ.out.2
  have K : Hid (w1.ownsRow (w.heap.size + 2) 75 4 (.slice po n pc) n (flatP ps) ∧ Below w.heap.size w w1) := ⟨by simpa using hown, nx_trans HZ.out.1 hb1⟩
  obtain ⟨y0, y1, y2, y3, y4, yz⟩ := blk5e hz
  clear hown hb1 hz HC
  go_wp2_with fail
  refine bodyPost_ret (v := .agg #[.int .i64 b, .slice po n pc, .slice none 0 0, .slice none 0 0, .int .i64 0]) (by simp [results, Tryz.results50, go_sem, y0, y1, y2, y3, y4]) rfl ⟨po, pc, rfl, ?_, ?_⟩
  · refine own_mono (ownG_heap K.out.1 (fun j hj => ?_)) (by omega)
    have hne : j ≠ w.heap.size + 1 := by have := (K.out.1.lt j hj).1; omega
    exact (Below.heap_setCell _ _ _ _ hne).trans ((Below.heap_setCell _ _ _ _ hne).trans ((Below.heap_setCell _ _ _ _ hne).trans ((Below.heap_setCell _ _ _ _ hne).trans (Below.heap_setCell _ _ _ _ hne))))
  · have hg : w.heap.size ≤ w.heap.size + 1 := by omega
    exact ((((K.out.2.setCell hg _).setCell hg _).setCell hg _).setCell hg _).setCell hg _
abbrev staNew (a : Ans) : Sta := ⟨a.tab.1, a.tab.2, [], [], [], false, false⟩
def NewG (a : Ans) (w w' : World) (e : Ending) : Prop :=
  (a.err ≠ 0 ∧ e = .returned (.tuple #[.pointer none, .int .i64 a.err, .int .i64 a.at']) ∧ Below w.heap.size w w') ∨
  (a.err = 0 ∧ ∃ gp F, e = .returned (.tuple #[.pointer (some ⟨gp, 0, none⟩), .int .i64 0, .int .i64 0]) ∧ DeskAt w' gp (staNew a) ⟨0, 0, []⟩ F ∧ (∀ y, F y → w.heap.size ≤ y) ∧ Below w.heap.size w w')
set_option maxRecDepth 20000 in
set_option maxHeartbeats 2000000 in
theorem new_any (s : ByteArray) (w : World) (hs : s.size ≤ maxLen) :
    Calls Tryz.prog 21 #[.string s] w fun e w' => NewG (ans s) w w' e := by
  have HC := hideIt (compile_any s w hs)
  have HL := hideIt (ans_len s)
  have HBAD := hideIt (ans_bad s)
  obtain ⟨⟨⟨b, ps⟩, er, pl⟩, ha⟩ : ∃ a, ans s = a := ⟨_, rfl⟩
  rw [ha] at HC HL HBAD ⊢
  simp only at HL HBAD
  unfold maxLen at hs
  clear ha
  go_enter Tryz.func21, Tryz.ntmps21
  go_wp2_with fail
  refine HC.out.mono ?_
  rintro e w1 ⟨vo, vc, rfl, hown, hb1⟩
  simp only at hown ⊢
  obtain ⟨m, hm⟩ : ∃ m, ps.length = m := ⟨_, rfl⟩
  rw [hm] at hown ⊢
  have hm1 : m ≤ 1001 := by rw [← hm]; exact HL.out
  have K1 : Hid (w1.ownsRow w.heap.size 75 4 (.slice vo m vc) m (flatP ps) ∧ Below w.heap.size w w1 ∧ ps.length = m) := ⟨hown, hb1, hm⟩
  by_cases her : er = 0
  · subst her
    have HO := hideIt (open_any b ps vo m vc (w1.alloc (bTab b (.slice vo m vc))) ((own_row hown).nx (nx_alloc _ _)) (own_nilc hown) hm (by omega))
    clear hown hb1 hm HC
    go_wp2_with fail
    refine HO.out.mono ?_
    rintro e w2 ⟨po, pc, rfl, hown2, hb2⟩
    have hsz : w.heap.size ≤ w2.heap.size := Nat.le_trans K1.out.2.1.size (Nat.le_trans (by simp) hb2.size)
    have K2 : Hid ((w2.alloc (bDesk b po m pc none 0 0 none 0 0 0 ⟨.slice none 0 0, false, false, 0, .slice none 0 0⟩)).ownsRow 0 75 4 (.slice po m pc) m (flatP ps) ∧ (∀ g, (Value.slice po m pc).ownBlock = some g → w.heap.size ≤ g ∧ g < w2.heap.size) ∧ Below w.heap.size w (w2.alloc (bDesk b po m pc none 0 0 none 0 0 0 ⟨.slice none 0 0, false, false, 0, .slice none 0 0⟩)) ∧ w.heap.size ≤ w2.heap.size) := by
      refine ⟨own_mono (hown2.alloc _) (Nat.zero_le _), fun g hg => ?_, ?_, hsz⟩
      · have := hown2.lt g hg
        have h1 := K1.out.2.1.size
        simp at this
        omega
      · exact (nx_trans (nx_trans K1.out.2.1 (nx_alloc _ _)) hb2).alloc hsz _
    clear hown2 hb2 hsz HO
    go_wp2_with fail
    refine bodyPost_ret (v := .tuple #[.pointer (some ⟨w2.heap.size, 0, none⟩), .int .i64 0, .int .i64 0]) (by simp [results, Tryz.results21, go_sem]) rfl ?_
    refine .inr ⟨rfl, w2.heap.size, fun y => y = w2.heap.size ∨ (Value.slice po m pc).ownBlock = some y, rfl, ?_, fun y hy => ?_, K2.out.2.2.1⟩
    · refine ⟨⟨po, pc, none, 0, none, 0, none, 0, none, 0, ?_, ⟨?_, fun g hg => .inr ?_⟩, Held.nil, Held.nil, Held.nil, Held.nil⟩, .inl rfl, fun x hx => ?_⟩
      · simp only [K1.out.2.2]; exact heap_alloc_at _ _ rfl
      · simp only [K1.out.2.2]; exact K2.out.1
      · simp only [K1.out.2.2] at hg; exact hg
      · rcases hx with hx | hx
        · rw [hx]; simp
        · have := (K2.out.2.1 x hx).2; simp; omega
    · rcases hy with hy | hy
      · rw [hy]; exact K2.out.2.2.2
      · exact (K2.out.2.1 y hy).1
  · have herb : ((er : Int) != 0) = true := by rw [bne_iff_ne]; omega
    have HE := hideIt her
    clear hown hb1 hm her HC
    go_wp2_with fail
    refine bodyPost_ret (v := .tuple #[.pointer none, .int .i64 er, .int .i64 pl]) (by simp [results, Tryz.results21, go_sem]) rfl ?_
    exact .inl ⟨HE.out, rfl, (K1.out.2.1.alloc K1.out.2.1.size _)⟩
end Lw
end Go.Proofs.YtohbonfngeblkaaGreat
namespace Go.Proofs.YtohbonfngeblkaaGreat
open Go.RowKit
namespace Lw
open Co
theorem pot_le {S : Sta} {op : Int} {T : Sta} {t : Int} (h1 : t ≤ op) (h2 : T.wts.length ≤ S.wts.length) : pot (T, t) ≤ pot (S, op) := by
  unfold pot
  simp only
  omega
theorem ask_pot (S : Sta) (op c : Int) (nm : ByteArray) : pot ((cAsk S op c nm).S, (cAsk S op c nm).op) ≤ pot (S, op) + 1 ∧ Rest S (cAsk S op c nm).S := by
  have h0 : pot (S, op) ≤ pot (S, op) + 1 := by omega
  have hq : ∀ (T : Sta) (t : Int), pot (cQuit T c, t) ≤ pot (T, t) := fun T t => pot_le (Int.le_refl _) (List.length_filter_le _ _)
  unfold cAsk
  split
  · exact ⟨h0, Rest.refl _⟩
  · split
    · exact ⟨h0, Rest.refl _⟩
    · split
      · exact ⟨h0, Rest.refl _⟩
      · rename_i x _
        have h1 := serve_pot (S.wts.length + 1) (joined S c x.nm) op
        have h2 : pot (joined S c x.nm, op) = pot (S, op) + 1 := by unfold pot joined; simp; omega
        have h3 : pot (cAsked S op c x.nm) ≤ pot (S, op) + 1 := by rw [← h2]; exact h1.1
        have h4 : Rest S (cAsked S op c x.nm).1 := Rest.trans (T := joined S c x.nm) ⟨rfl, rfl, rfl, rfl, rfl⟩ h1.2.2
        split
        · exact ⟨h3, h4⟩
        · split
          · exact ⟨Int.le_trans (hq _ _) h3, h4.trans ⟨rfl, rfl, rfl, rfl, rfl⟩⟩
          · exact ⟨h3, h4⟩
theorem leave_pot (S : Sta) (op c : Int) : pot ((cLeave S op c).S, (cLeave S op c).op) ≤ pot (S, op) + 1 ∧ Rest S (cLeave S op c).S := by
  unfold cLeave
  split
  · exact ⟨by simp only; omega, Rest.refl _⟩
  · split
    · exact ⟨by simp only; omega, Rest.refl _⟩
    · have : pot (cQuit S c, op) ≤ pot (S, op) := pot_le (Int.le_refl _) (List.length_filter_le _ _)
      exact ⟨by simp only; omega, ⟨rfl, rfl, rfl, rfl, rfl⟩⟩
theorem crash_pot (S : Sta) (op c : Int) : pot ((cCrash S op c).S, (cCrash S op c).op) ≤ pot (S, op) + 1 ∧ Rest S (cCrash S op c).S := by
  unfold cCrash
  split
  · exact ⟨by simp only; omega, Rest.refl _⟩
  · have h1 := serve_pot S.wts.length (cShut S c) op
    have h2 : pot (cShut S c, op) = pot (S, op) := rfl
    exact ⟨by have := h1.1; rw [h2] at this; simp only; exact Int.le_trans this (by omega), Rest.trans (T := cShut S c) ⟨rfl, rfl, rfl, rfl, rfl⟩ h1.2.2⟩
theorem done_pot (S : Sta) (op c : Int) : pot ((cDone S op c).S, (cDone S op c).op) ≤ pot (S, op) + 1 ∧ Rest S (cDone S op c).S := by
  unfold cDone
  split
  · exact ⟨by simp only; omega, Rest.refl _⟩
  · split
    · exact ⟨by simp only; omega, Rest.refl _⟩
    · rename_i s _
      simp only
      obtain ⟨T, hT⟩ : ∃ T, (if isSur (cHand S s.id 0) s = true then cShut (cHand S s.id 0) s.id else cHand S s.id 0) = T := ⟨_, rfl⟩
      rw [hT]
      have h3 : pot (T, op) = pot (S, op) ∧ Rest S T := by
        rw [← hT]
        split <;> exact ⟨rfl, rfl, rfl, rfl, rfl, rfl⟩
      have h1 := serve_pot S.wts.length T op
      exact ⟨by have := h1.1; rw [h3.1] at this; exact Int.le_trans this (by omega), h3.2.trans h1.2.2⟩
end Lw
end Go.Proofs.YtohbonfngeblkaaGreat
