import Derived.Test.YtohbonfngeblkaaGreatMnO
import Derived.Test.YtohbonfngeblkaaGreatMnT
import Derived.Test.YtohbonfngeblkaaGreatMnW
import Derived.Test.YtohbonfngeblkaaGreatMnY
namespace Go.Proofs.YtohbonfngeblkaaGreat
open Go.RowKit
namespace Lw
open Co
theorem rdC_len : ∀ (ps : List ByteArray) (i : Nat) (acc : List Ln), (rdC i acc ps).lines.length ≤ acc.length + ps.length
  | [], i, acc => by
    rw [rdC]
    split <;> simp
  | p :: r, i, acc => by
    rw [rdC]
    split
    · have := rdC_len r (i + 1) acc
      simp; omega
    · split
      · simp
      · split
        · rename_i l _ _
          have := rdC_len r (i + 1) (acc ++ [{ l with place := i + 1 }])
          simp at this ⊢; omega
        · simp
theorem tabC_len (all : List Ln) : ∀ (ls : List Ln) (x : Int × List Pl), (ls.foldl (stC all) x).2.length ≤ x.2.length + ls.length
  | [], x => by simp
  | l :: r, x => by
    have := tabC_len all r (stC all x l)
    rw [List.foldl_cons]
    have h : (stC all x l).2.length ≤ x.2.length + 1 := by
      unfold stC
      split
      · simp
      · split
        · simp [insP_len]
        · omega
    simp; omega
theorem ans_len (s : ByteArray) : (ans s).tab.2.length ≤ 1001 := by
  unfold ans
  split
  · simp
  · split
    · simp
    · split
      · simp
      · rename_i h _ _
        have h1 := tabC_len (rd s).lines (rd s).lines (0, [])
        have h2 : (rd s).lines.length ≤ 0 + (pieces s 10).length := rdC_len _ _ _
        have h3 := pieces_len s 10
        have h4 : (tabC (rd s).lines).2.length ≤ 0 + (rd s).lines.length := h1
        simp only
        omega
theorem ans_ok (s : ByteArray) (h : (ans s).err = 0) : (ans s).at' = 0 := by
  unfold ans at h ⊢
  split at h
  · simp at h
  · rename_i h0
    rw [if_neg h0]
    split at h
    · rename_i h1; exact absurd h h1
    · rename_i h1
      rw [if_neg h1]
      split at h
      · rename_i h2; exact absurd h h2
      · rename_i h2; rw [if_neg h2]
theorem ans_bad (s : ByteArray) (h : (ans s).err ≠ 0) : (ans s).tab = (0, []) := by
  unfold ans at h ⊢
  split at h
  · rename_i h0; rw [if_pos h0]
  · rename_i h0
    rw [if_neg h0]
    split at h
    · rename_i h1; rw [if_pos h1]
    · rename_i h1
      rw [if_neg h1]
      split at h
      · rename_i h2; rw [if_pos h2]
      · exact absurd rfl h
abbrev zDesk : Obj := .cells #[.int .i64 0, .slice none 0 0, .slice none 0 0, .slice none 0 0, .int .i64 0] 78
set_option maxRecDepth 20000 in
set_option maxHeartbeats 2000000 in
theorem open_any (b : Int) (ps : List Pl) (vo : Option Addr) (n vc : Nat) (w : World) (hr : RowAt w (.slice vo n vc) n (flatP ps)) (hnil : vo = none → vc = 0) (hn : ps.length = n) (hq : n ≤ 1099511627776) :
    Calls Tryz.prog 50 #[.agg #[.int .i64 b, .slice vo n vc]] w fun e w' => ∃ po pc, e = .returned (.agg #[.int .i64 b, .slice po n pc, .slice none 0 0, .slice none 0 0, .int .i64 0]) ∧ w'.ownsRow w.heap.size 75 4 (.slice po n pc) n (flatP ps) ∧ Below w.heap.size w w' := by
  have hb0 : Below w.heap.size w ((w.alloc (bTab b (.slice vo n vc))).alloc zDesk) := nx_trans (nx_alloc _ _) (nx_alloc _ _)
  have HC := hideIt (copy_any b ps vo n vc ((w.alloc (bTab b (.slice vo n vc))).alloc zDesk) (hr.nx hb0) hnil hn hq)
  have HZ : Hid (Below w.heap.size w ((w.alloc (bTab b (.slice vo n vc))).alloc zDesk) ∧ ((w.alloc (bTab b (.slice vo n vc))).alloc zDesk).heap[w.heap.size + 1]? = some zDesk) := ⟨hb0, heap_alloc_at _ _ (by simp)⟩
  clear hr hnil hn hq hb0
  go_enter Tryz.func50, Tryz.ntmps50
  go_wp2_with fail
  refine HC.out.mono ?_
  rintro e w1 ⟨po, pc, rfl, hown, hb1⟩
  have hz : w1.heap[w.heap.size + 1]? = some zDesk := (hb1.block _ (by simp)).trans HZ.out.2
  have K : Hid (w1.ownsRow (w.heap.size + 2) 75 4 (.slice po n pc) n (flatP ps) ∧ Below w.heap.size w w1) := ⟨by simpa using hown, nx_trans HZ.out.1 hb1⟩
  obtain ⟨y0, y1, y2, y3, y4, yz⟩ := blk5e hz
  clear hown hb1 hz HC
  go_wp2_with fail
  refine bodyPost_ret (v := .agg #[.int .i64 b, .slice po n pc, .slice none 0 0, .slice none 0 0, .int .i64 0]) (by simp [results, Tryz.results50, go_sem, y0, y1, y2, y3, y4]) rfl ⟨po, pc, rfl, ?_, ?_⟩
  · refine own_mono (ownG_heap K.out.1 (fun j hj => ?_)) (by omega)
    have hne : j ≠ w.heap.size + 1 := by have := (K.out.1.lt j hj).1; omega
    exact (Below.heap_setCell _ _ _ _ hne).trans ((Below.heap_setCell _ _ _ _ hne).trans ((Below.heap_setCell _ _ _ _ hne).trans ((Below.heap_setCell _ _ _ _ hne).trans (Below.heap_setCell _ _ _ _ hne))))
  · have hg : w.heap.size ≤ w.heap.size + 1 := by omega
    exact ((((K.out.2.setCell hg _).setCell hg _).setCell hg _).setCell hg _).setCell hg _
abbrev staNew (a : Ans) : Sta := ⟨a.tab.1, a.tab.2, [], [], [], false, false⟩
def NewG (a : Ans) (w w' : World) (e : Ending) : Prop :=
  (a.err ≠ 0 ∧ e = .returned (.tuple #[.pointer none, .int .i64 a.err, .int .i64 a.at']) ∧ Below w.heap.size w w') ∨
  (a.err = 0 ∧ ∃ gp F, e = .returned (.tuple #[.pointer (some ⟨gp, 0, none⟩), .int .i64 0, .int .i64 0]) ∧ DeskAt w' gp (staNew a) ⟨0, 0, []⟩ F ∧ (∀ y, F y → w.heap.size ≤ y) ∧ Below w.heap.size w w')
set_option maxRecDepth 20000 in
set_option maxHeartbeats 2000000 in
theorem new_any (s : ByteArray) (w : World) (hs : s.size ≤ maxLen) :
    Calls Tryz.prog 21 #[.string s] w fun e w' => NewG (ans s) w w' e := by
  have HC := hideIt (compile_any s w hs)
  have HL := hideIt (ans_len s)
  have HBAD := hideIt (ans_bad s)
  obtain ⟨⟨⟨b, ps⟩, er, pl⟩, ha⟩ : ∃ a, ans s = a := ⟨_, rfl⟩
  rw [ha] at HC HL HBAD ⊢
  simp only at HL HBAD
  unfold maxLen at hs
  clear ha
  go_enter Tryz.func21, Tryz.ntmps21
  go_wp2_with fail
  refine HC.out.mono ?_
  rintro e w1 ⟨vo, vc, rfl, hown, hb1⟩
  simp only at hown ⊢
  obtain ⟨m, hm⟩ : ∃ m, ps.length = m := ⟨_, rfl⟩
  rw [hm] at hown ⊢
  have hm1 : m ≤ 1001 := by rw [← hm]; exact HL.out
  have K1 : Hid (w1.ownsRow w.heap.size 75 4 (.slice vo m vc) m (flatP ps) ∧ Below w.heap.size w w1 ∧ ps.length = m) := ⟨hown, hb1, hm⟩
  by_cases her : er = 0
  · subst her
    have HO := hideIt (open_any b ps vo m vc (w1.alloc (bTab b (.slice vo m vc))) ((own_row hown).nx (nx_alloc _ _)) (own_nilc hown) hm (by omega))
    clear hown hb1 hm HC
    go_wp2_with fail
    refine HO.out.mono ?_
    rintro e w2 ⟨po, pc, rfl, hown2, hb2⟩
    have hsz : w.heap.size ≤ w2.heap.size := Nat.le_trans K1.out.2.1.size (Nat.le_trans (by simp) hb2.size)
    have K2 : Hid ((w2.alloc (bDesk b po m pc none 0 0 none 0 0 0 ⟨.slice none 0 0, false, false, 0, .slice none 0 0⟩)).ownsRow 0 75 4 (.slice po m pc) m (flatP ps) ∧ (∀ g, (Value.slice po m pc).ownBlock = some g → w.heap.size ≤ g ∧ g < w2.heap.size) ∧ Below w.heap.size w (w2.alloc (bDesk b po m pc none 0 0 none 0 0 0 ⟨.slice none 0 0, false, false, 0, .slice none 0 0⟩)) ∧ w.heap.size ≤ w2.heap.size) := by
      refine ⟨own_mono (hown2.alloc _) (Nat.zero_le _), fun g hg => ?_, ?_, hsz⟩
      · have := hown2.lt g hg
        have h1 := K1.out.2.1.size
        simp at this
        omega
      · exact (nx_trans (nx_trans K1.out.2.1 (nx_alloc _ _)) hb2).alloc hsz _
    clear hown2 hb2 hsz HO
    go_wp2_with fail
    refine bodyPost_ret (v := .tuple #[.pointer (some ⟨w2.heap.size, 0, none⟩), .int .i64 0, .int .i64 0]) (by simp [results, Tryz.results21, go_sem]) rfl ?_
    refine .inr ⟨rfl, w2.heap.size, fun y => y = w2.heap.size ∨ (Value.slice po m pc).ownBlock = some y, rfl, ?_, fun y hy => ?_, K2.out.2.2.1⟩
    · refine ⟨⟨po, pc, none, 0, none, 0, none, 0, none, 0, ?_, ⟨?_, fun g hg => .inr ?_⟩, Held.nil, Held.nil, Held.nil, Held.nil⟩, .inl rfl, fun x hx => ?_⟩
      · simp only [K1.out.2.2]; exact heap_alloc_at _ _ rfl
      · simp only [K1.out.2.2]; exact K2.out.1
      · simp only [K1.out.2.2] at hg; exact hg
      · rcases hx with hx | hx
        · rw [hx]; simp
        · have := (K2.out.2.1 x hx).2; simp; omega
    · rcases hy with hy | hy
      · rw [hy]; exact K2.out.2.2.2
      · exact (K2.out.2.1 y hy).1
  · have herb : ((er : Int) != 0) = true := by rw [bne_iff_ne]; omega
    have HE := hideIt her
    clear hown hb1 hm her HC
    go_wp2_with fail
    refine bodyPost_ret (v := .tuple #[.pointer none, .int .i64 er, .int .i64 pl]) (by simp [results, Tryz.results21, go_sem]) rfl ?_
    exact .inl ⟨HE.out, rfl, (K1.out.2.1.alloc K1.out.2.1.size _)⟩
end Lw
end Go.Proofs.YtohbonfngeblkaaGreat
namespace Go.Proofs.YtohbonfngeblkaaGreat
open Go.RowKit
namespace Lw
open Co
theorem pot_le {S : Sta} {op : Int} {T : Sta} {t : Int} (h1 : t ≤ op) (h2 : T.wts.length ≤ S.wts.length) : pot (T, t) ≤ pot (S, op) := by
  unfold pot
  simp only
  omega
theorem ask_pot (S : Sta) (op c : Int) (nm : ByteArray) : pot ((cAsk S op c nm).S, (cAsk S op c nm).op) ≤ pot (S, op) + 1 ∧ Rest S (cAsk S op c nm).S := by
  have h0 : pot (S, op) ≤ pot (S, op) + 1 := by omega
  have hq : ∀ (T : Sta) (t : Int), pot (cQuit T c, t) ≤ pot (T, t) := fun T t => pot_le (Int.le_refl _) (List.length_filter_le _ _)
  unfold cAsk
  split
  · exact ⟨h0, Rest.refl _⟩
  · split
    · exact ⟨h0, Rest.refl _⟩
    · split
      · exact ⟨h0, Rest.refl _⟩
      · rename_i x _
        have h1 := serve_pot (S.wts.length + 1) (joined S c x.nm) op
        have h2 : pot (joined S c x.nm, op) = pot (S, op) + 1 := by unfold pot joined; simp; omega
        have h3 : pot (cAsked S op c x.nm) ≤ pot (S, op) + 1 := by rw [← h2]; exact h1.1
        have h4 : Rest S (cAsked S op c x.nm).1 := Rest.trans (T := joined S c x.nm) ⟨rfl, rfl, rfl, rfl, rfl⟩ h1.2.2
        split
        · exact ⟨h3, h4⟩
        · split
          · exact ⟨Int.le_trans (hq _ _) h3, h4.trans ⟨rfl, rfl, rfl, rfl, rfl⟩⟩
          · exact ⟨h3, h4⟩
theorem leave_pot (S : Sta) (op c : Int) : pot ((cLeave S op c).S, (cLeave S op c).op) ≤ pot (S, op) + 1 ∧ Rest S (cLeave S op c).S := by
  unfold cLeave
  split
  · exact ⟨by simp only; omega, Rest.refl _⟩
  · split
    · exact ⟨by simp only; omega, Rest.refl _⟩
    · have : pot (cQuit S c, op) ≤ pot (S, op) := pot_le (Int.le_refl _) (List.length_filter_le _ _)
      exact ⟨by simp only; omega, ⟨rfl, rfl, rfl, rfl, rfl⟩⟩
theorem crash_pot (S : Sta) (op c : Int) : pot ((cCrash S op c).S, (cCrash S op c).op) ≤ pot (S, op) + 1 ∧ Rest S (cCrash S op c).S := by
  unfold cCrash
  split
  · exact ⟨by simp only; omega, Rest.refl _⟩
  · have h1 := serve_pot S.wts.length (cShut S c) op
    have h2 : pot (cShut S c, op) = pot (S, op) := rfl
    exact ⟨by have := h1.1; rw [h2] at this; simp only; exact Int.le_trans this (by omega), Rest.trans (T := cShut S c) ⟨rfl, rfl, rfl, rfl, rfl⟩ h1.2.2⟩
theorem done_pot (S : Sta) (op c : Int) : pot ((cDone S op c).S, (cDone S op c).op) ≤ pot (S, op) + 1 ∧ Rest S (cDone S op c).S := by
  unfold cDone
  split
  · exact ⟨by simp only; omega, Rest.refl _⟩
  · split
    · exact ⟨by simp only; omega, Rest.refl _⟩
    · rename_i s _
      simp only
      obtain ⟨T, hT⟩ : ∃ T, (if isSur (cHand S s.id 0) s = true then cShut (cHand S s.id 0) s.id else cHand S s.id 0) = T := ⟨_, rfl⟩
      rw [hT]
      have h3 : pot (T, op) = pot (S, op) ∧ Rest S T := by
        rw [← hT]
        split <;> exact ⟨rfl, rfl, rfl, rfl, rfl, rfl⟩
      have h1 := serve_pot S.wts.length T op
      exact ⟨by have := h1.1; rw [h3.1] at this; exact Int.le_trans this (by omega), h3.2.trans h1.2.2⟩
end Lw
end Go.Proofs.YtohbonfngeblkaaGreat
namespace Go.Proofs.YtohbonfngeblkaaGreat
open Go.RowKit
namespace Lw
open Co
def CntA (A : Int × List Pl) (S : Sta) : Prop := (∀ nm, (cntG (isPoolV nm) S.srv : Int) ≤ 0 ∨ ∃ p, A.2.find? (isNameP nm) = some p ∧ (cntG (isPoolV nm) S.srv : Int) ≤ p.sz) ∧ ((S.srv.length : Int) ≤ 0 ∨ (S.srv.length : Int) ≤ A.1)
theorem cntA_srvd {A : Int × List Pl} {R T : Sta} {op op' : Int} (h : Srvd R T op op') (hp : R.pools = A.2) (hb : R.bud = A.1) (hc : CntA A R) : CntA A T := by
  refine ⟨fun nm => ?_, ?_⟩
  · rcases h.cnt nm with h1 | ⟨p, h1, h2⟩
    · rcases hc.1 nm with h3 | ⟨p, h3, h4⟩
      · exact .inl (by omega)
      · exact .inr ⟨p, h3, by omega⟩
    · exact .inr ⟨p, by rw [← hp]; exact h1, h2⟩
  · rcases h.len with h1 | h1
    · rcases hc.2 with h3 | h3
      · exact .inl (by omega)
      · exact .inr (by omega)
    · exact .inr (by omega)
structure Fresh (S : Sta) (X : Aux) (A : Int × List Pl) : Prop where
  good : Good S X.op
  pools : S.pools = A.2
  bud : S.bud = A.1
  rest : S.plan = [] ∧ S.begun = false ∧ S.back = false
  pot : pot (S, X.op) ≤ 2
  hps : X.hps = []
  hb : X.hb = 0
  cnt : CntA A S
abbrev sta0 (A : Int × List Pl) : Sta := ⟨A.1, A.2, [], [], [], false, false⟩
theorem good0 (A : Int × List Pl) : Good (sta0 A) 0 :=
  ⟨⟨⟨List.Pairwise.nil, by simp, Int.le_refl _, List.Pairwise.nil⟩, by simp, by simp, List.Pairwise.nil, by simp, by simp⟩, rfl, by simp⟩
theorem find_self {b : Int} {ps : List Pl} (h : Okt b ps) {x : Pl} (hx : x ∈ ps) : ps.find? (isNameP x.nm) = some x := by
  cases hf : ps.find? (isNameP x.nm) with
  | none =>
    have := find_none' hf x hx
    unfold isNameP at this
    simp at this
  | some y =>
    have hy := List.mem_of_find?_eq_some hf
    have hn := List.find?_some hf
    have hn' : y.nm = x.nm := ba_ext' (eq_of_beq hn)
    obtain ⟨i, hi, rfl⟩ := List.getElem_of_mem hx
    obtain ⟨j, hj, rfl⟩ := List.getElem_of_mem hy
    have hp := List.pairwise_iff_getElem.1 h.up
    have hirr : ∀ a : ByteArray, lt a a = true → False := fun a ha => lt_ne ha rfl
    rcases Nat.lt_trichotomy i j with hij | hij | hij
    · have := hp i j hi hj hij
      rw [hn'] at this
      exact (hirr _ this).elim
    · subst hij; rfl
    · have := hp j i hj hi hij
      rw [hn'] at this
      exact (hirr _ this).elim
theorem ask_first {A : Int × List Pl} (h : Okt A.1 A.2) {x : Pl} (hx : x ∈ A.2) (hs : 0 < x.sz) : (cAsk (sta0 A) 0 1 x.nm).id = 1 ∧ (cAsk (sta0 A) 0 1 x.nm).err = 0 ∧ ((cAsk (sta0 A) 0 1 x.nm).S.srv.find? (isCliV 1)).isSome = true := by
  have hf := find_self h hx
  have hb := h.b0
  have h1 : cGive (joined (sta0 A) 1 x.nm) 0 ⟨1, x.nm⟩ = some (cOpen (joined (sta0 A) 1 x.nm) 0 x 1, 1) := by
    unfold cGive
    rw [show (joined (sta0 A) 1 x.nm).pools = A.2 from rfl, hf]
    show (if x.sz ≤ ((cntG (isPoolV x.nm) ([] : List Srv) : Nat) : Int) then none else if (([] : List Srv).length : Int) < A.1 then some (cOpen (joined (sta0 A) 1 x.nm) 0 x 1, 0 + 1) else _) = _
    have e1 : ¬ x.sz ≤ ((cntG (isPoolV x.nm) ([] : List Srv) : Nat) : Int) := by
      show ¬ x.sz ≤ 0
      omega
    have e2 : (([] : List Srv).length : Int) < A.1 := by
      show (0 : Int) < A.1
      omega
    rw [if_neg e1, if_pos e2]
    rfl
  have h2 : cAsked (sta0 A) 0 1 x.nm = (cQuit (cOpen (joined (sta0 A) 1 x.nm) 0 x 1) 1, 1) := by
    unfold cAsked
    show cServe 1 (joined (sta0 A) 1 x.nm) 0 = _
    rw [cServe, show (joined (sta0 A) 1 x.nm).wts = [⟨1, x.nm⟩] from rfl, cFirst, h1]
    rfl
  have h3 : (cQuit (cOpen (joined (sta0 A) 1 x.nm) 0 x 1) 1).srv.find? (isCliV 1) = some ⟨1, x.nm, x.fr, 1⟩ := rfl
  have h4 : cAsk (sta0 A) 0 1 x.nm = ⟨cQuit (cOpen (joined (sta0 A) 1 x.nm) 0 x 1) 1, 1, 1, 0⟩ := by
    unfold cAsk
    rw [if_neg (by decide), if_neg (by simp), show (sta0 A).pools = A.2 from rfl, hf]
    simp only
    rw [h2]
    simp only
    rw [h3]
  rw [h4]
  exact ⟨rfl, rfl, by rw [h3]; rfl⟩
theorem done_first {S : Sta} {op : Int} (h : (S.srv.find? (isCliV 1)).isSome = true) : (cDone S op 1).err = 0 := by
  unfold cDone
  rw [if_neg (by decide)]
  cases hf : S.srv.find? (isCliV 1) with
  | none => rw [hf] at h; simp at h
  | some s => rfl
theorem fresh0 (A : Int × List Pl) : Fresh (sta0 A) ⟨0, 0, []⟩ A := ⟨good0 A, rfl, rfl, ⟨rfl, rfl, rfl⟩, by show (0 : Int) + (([] : List Wtr).length : Int) ≤ 2; simp, rfl, rfl, ⟨fun _ => .inl (Int.le_refl _), .inl (Int.le_refl _)⟩⟩
theorem fresh1 (A : Int × List Pl) (nm : ByteArray) : Fresh (cDone (cAsk (sta0 A) 0 1 nm).S (cAsk (sta0 A) 0 1 nm).op 1).S ⟨(cDone (cAsk (sta0 A) 0 1 nm).S (cAsk (sta0 A) 0 1 nm).op 1).op, 0, []⟩ A := by
  have h1 := (good_ask (good0 A) 1 nm).1
  have h2 := (good_done h1 1 0 0).1
  have p1 := ask_pot (sta0 A) 0 1 nm
  have p2 := done_pot (cAsk (sta0 A) 0 1 nm).S (cAsk (sta0 A) 0 1 nm).op 1
  have r := p1.2.trans p2.2
  have c1 : CntA A (cAsk (sta0 A) 0 1 nm).S := by
    rcases ask_cases (good0 A) 1 nm with ⟨e, _, _, _⟩ | ⟨_, _, _, _, _, x, _, e, _, hR, _⟩
    · rw [e]; exact ⟨fun _ => .inl (Int.le_refl _), .inl (Int.le_refl _)⟩
    · rw [e]; exact cntA_srvd hR rfl rfl ⟨fun _ => .inl (Int.le_refl _), .inl (Int.le_refl _)⟩
  have c2 : CntA A (cDone (cAsk (sta0 A) 0 1 nm).S (cAsk (sta0 A) 0 1 nm).op 1).S := by
    rcases done_cases h1 1 with ⟨e, _, _⟩ | ⟨_, _, _, s, hs, hsc, hR⟩
    · rw [e]; exact c1
    · obtain ⟨_, _, f2, f3, _, _, _, f7, f8, _⟩ := fine_done h1.fine hs (by omega)
      refine cntA_srvd hR (f2.trans p1.2.1) (f3.trans p1.2.2.1) ⟨fun nm => ?_, ?_⟩
      · have := f7 nm
        rcases c1.1 nm with h3 | ⟨p, h3, h4⟩
        · exact .inl (by omega)
        · exact .inr ⟨p, h3, by omega⟩
      · rcases c1.2 with h3 | h3
        · exact .inl (by omega)
        · exact .inr (by omega)
  refine ⟨h2, r.1, r.2.1, r.2.2, ?_, rfl, rfl, c2⟩
  have h0 : pot (sta0 A, 0) = 0 := by show (0 : Int) + (([] : List Wtr).length : Int) = 0; simp
  show pot ((cDone (cAsk (sta0 A) 0 1 nm).S (cAsk (sta0 A) 0 1 nm).op 1).S, (cDone (cAsk (sta0 A) 0 1 nm).S (cAsk (sta0 A) 0 1 nm).op 1).op) ≤ 2
  have a := p1.1
  have b := p2.1
  rw [h0] at a
  omega
theorem ok0 {A : Int × List Pl} (h : Okt A.1 A.2) : Ok (sta0 A) 0 := ⟨(good0 A).fine.inv, by show (0 : Int) + (([] : List Wtr).length : Int) ≤ _; simp, by show A.2.length ≤ _; have := h.len; omega⟩
theorem ok_ask {S : Sta} {op : Int} (h : Good S op) (hok : Ok S op) (hp : pot (S, op) + 1 ≤ 549755813888) (c : Int) (nm : ByteArray) : Ok (cAsk S op c nm).S (cAsk S op c nm).op := by
  have h1 := (good_ask h c nm).1
  have p1 := ask_pot S op c nm
  exact ⟨h1.fine.inv, Int.le_trans p1.1 hp, by rw [p1.2.1]; exact hok.pools⟩
def OpenG (w w' : World) (e : Ending) : Prop :=
  ∃ gg gp S X Fp A B ao ac bo bc, e = .returned (.tuple #[.pointer (some ⟨gg, 0, none⟩), .bool true]) ∧ GameAt w' gg gp S X Fp A B ao ac bo bc ∧ Okt A.1 A.2 ∧ Okt B.1 B.2 ∧ Fresh S X A ∧ (∀ y, Fp y → w.heap.size ≤ y) ∧ Below w.heap.size w w'
theorem own_not {w0 w : World} {v : Value} {n : Nat} {cs : List Value} {ty : TypeId} {sz B : Nat} (h : w0.ownsRow B ty sz v n cs) (hb : Below w0.heap.size w0 w) {Fp : Nat → Prop} (hF : ∀ y, Fp y → w0.heap.size ≤ y) : ∀ g, v.ownBlock = some g → g < w.heap.size ∧ ¬ Fp g := fun g hg => by
  have h1 := (h.lt g hg).2
  refine ⟨Nat.lt_of_lt_of_le h1 hb.size, fun hf => ?_⟩
  have := hF g hf
  omega
theorem opened_mk {w3 w6 w8 : World} {gp : Nat} {S : Sta} {X : Aux} {F : Nat → Prop} {A B : Int × List Pl} {ao : Option Addr} {ac : Nat} {bo : Option Addr} {bc : Nat} (hm : Moved w6 w8 gp S X F) (hF : ∀ y, F y → w3.heap.size ≤ y) (hb : Below w3.heap.size w3 w6) (oa : w3.ownsRow 0 75 4 (.slice ao A.2.length ac) A.2.length (flatP A.2)) (ob : w3.ownsRow 0 75 4 (.slice bo B.2.length bc) B.2.length (flatP B.2)) :
    ∃ F8, GameAt (w8.alloc (bGame gp A.1 (.slice ao A.2.length ac) B.1 (.slice bo B.2.length bc))) w8.heap.size gp S X F8 A B ao ac bo bc ∧ (∀ y, F8 y → w3.heap.size ≤ y) ∧ Below w3.heap.size w3 (w8.alloc (bGame gp A.1 (.slice ao A.2.length ac) B.1 (.slice bo B.2.length bc))) := by
  obtain ⟨F8, hd, h8, hch⟩ := hm
  have hF8 : ∀ y, F8 y → w3.heap.size ≤ y := fun y hy => by
    rcases h8 y hy with h | h
    · exact hF y h
    · exact Nat.le_trans hb.size h
  have hb8 : Below w3.heap.size w3 w8 := hb.trans (hch.below hb.size hF)
  have hrow : ∀ {v : Value} {n : Nat} {cs : List Value}, w3.ownsRow 0 75 4 v n cs → RowAt (w8.alloc (bGame gp A.1 (.slice ao A.2.length ac) B.1 (.slice bo B.2.length bc))) v n cs := fun {v n cs} h => ((own_row h).nx hb8).nx (nx_alloc _ _)
  refine ⟨F8, ⟨heap_alloc_at _ _ rfl, hd.keep (G := fun _ => False) (Chg.of_below (nx_alloc _ _)) (fun _ _ h => h), hrow oa, hrow ob, own_not oa (nx_trans hb8 (nx_alloc _ _)) hF8, own_not ob (nx_trans hb8 (nx_alloc _ _)) hF8, fun hf => ?_⟩, hF8, nx_trans hb8 (nx_alloc _ _)⟩
  have := hd.lt _ hf
  omega
set_option maxRecDepth 20000 in
set_option maxHeartbeats 8000000 in
theorem gOpened (b1 : Int) (xs : List Pl) (xo : Option Addr) (nx xc : Nat) (b2 : Int) (ys : List Pl) (yo : Option Addr) (ny yc : Nat) (w : World)
    (hr1 : RowAt w (.slice xo nx xc) nx (flatP xs)) (hn1 : xs.length = nx) (hm1 : nx ≤ maxLen) (hb1 : I64 b1) (hx1 : ∀ x ∈ xs, I64 x.sz ∧ I64 x.wt ∧ I64 x.fr)
    (hr2 : RowAt w (.slice yo ny yc) ny (flatP ys)) (hn2 : ys.length = ny) (hm2 : ny ≤ maxLen) (hb2 : I64 b2) (hx2 : ∀ x ∈ ys, I64 x.sz ∧ I64 x.wt ∧ I64 x.fr) :
    Calls Tryz.prog 9 #[.agg #[.int .i64 b1, .slice xo nx xc], .agg #[.int .i64 b2, .slice yo ny yc]] w fun e w' => OpenG w w' e := by
  obtain ⟨W, hW⟩ : ∃ W, W = (w.alloc (bTab b1 (.slice xo nx xc))).alloc (bTab b2 (.slice yo ny yc)) := ⟨_, rfl⟩
  have hbW : Below w.heap.size w W := by rw [hW]; exact nx_trans (nx_alloc _ _) (nx_alloc _ _)
  have HW : Hid (W = (w.alloc (bTab b1 (.slice xo nx xc))).alloc (bTab b2 (.slice yo ny yc)) ∧ W.heap[w.heap.size]? = some (bTab b1 (.slice xo nx xc)) ∧ W.heap[w.heap.size + 1]? = some (bTab b2 (.slice yo ny yc)) ∧ Below w.heap.size w W) := by
    refine ⟨hW, ?_, ?_, hbW⟩
    · rw [hW]; exact (heap_alloc_lt _ _ (by simp)).trans (heap_alloc_at _ _ rfl)
    · rw [hW]; exact heap_alloc_at _ _ (by simp)
  have HB1 := hideIt (Bent_any b1 xs xo xc nx W (hr1.nx hbW) hn1 hm1 hb1 hx1)
  have HB2 := hideIt (fun u (hu : Below W.heap.size W u) => Bent_any b2 ys yo yc ny u ((hr2.nx hbW).nx hu) hn2 hm2 hb2 hx2)
  clear hr1 hn1 hm1 hb1 hx1 hr2 hn2 hm2 hb2 hx2 hW hbW
  go_enter Tryz.func9, Tryz.ntmps9
  go_upto_region 1 with fail
  rw [← HW.out.1]
  obtain ⟨a0, a1⟩ := gblk2 HW.out.2.1
  go_wp2_with fail
  refine HB1.out.mono ?_
  rintro e w1 ⟨r, ps, vo, vc, hok, rfl, hown, hb1⟩
  obtain ⟨m, hm⟩ : ∃ m, ps.length = m := ⟨_, rfl⟩
  rw [hm] at hown ⊢
  have hm6 : m ≤ 6 := by rw [← hm]; exact hok.len
  obtain ⟨V1, hV1⟩ : ∃ V1, V1 = w1.alloc (bTab r (.slice vo m vc)) := ⟨_, rfl⟩
  have K1 : Hid (Okt r ps ∧ ps.length = m ∧ V1 = w1.alloc (bTab r (.slice vo m vc)) ∧ V1.heap[w1.heap.size]? = some (bTab r (.slice vo m vc)) ∧ V1.ownsRow 0 75 4 (.slice vo m vc) m (flatP ps) ∧ Below W.heap.size W V1) :=
    ⟨hok, hm, hV1, by rw [hV1]; exact heap_alloc_at _ _ rfl, by rw [hV1]; exact own_mono (own_below hown (nx_alloc _ _)) (Nat.zero_le _), by rw [hV1]; exact nx_trans hb1 (nx_alloc _ _)⟩
  clear hok hm hown hb1 hV1 a0 a1
  go_upto_region 2 with fail
  rw [← K1.out.2.2.1]
  obtain ⟨a0, a1⟩ := gblk2 (gblk HW.out.2.2.1 K1.out.2.2.2.2.2)
  go_wp2_with fail
  refine (HB2.out V1 K1.out.2.2.2.2.2).mono ?_
  rintro e w2 ⟨r2, ps2, vo2, vc2, hok, rfl, hown, hb1⟩
  obtain ⟨m2, hm⟩ : ∃ m2, ps2.length = m2 := ⟨_, rfl⟩
  rw [hm] at hown ⊢
  obtain ⟨V2, hV2⟩ : ∃ V2, V2 = w2.alloc (bTab r2 (.slice vo2 m2 vc2)) := ⟨_, rfl⟩
  have hbV : Below V1.heap.size V1 V2 := by rw [hV2]; exact nx_trans hb1 (nx_alloc _ _)
  have K2 : Hid (Okt r2 ps2 ∧ ps2.length = m2 ∧ V2 = w2.alloc (bTab r2 (.slice vo2 m2 vc2)) ∧ V2.heap[w2.heap.size]? = some (bTab r2 (.slice vo2 m2 vc2)) ∧ V2.ownsRow 0 75 4 (.slice vo2 m2 vc2) m2 (flatP ps2) ∧ Below w.heap.size w V2 ∧ V2.heap[w1.heap.size]? = some (bTab r (.slice vo m vc)) ∧ V2.ownsRow 0 75 4 (.slice vo m vc) m (flatP ps)) :=
    ⟨hok, hm, hV2, by rw [hV2]; exact heap_alloc_at _ _ rfl, by rw [hV2]; exact own_mono (own_below hown (nx_alloc _ _)) (Nat.zero_le _), nx_trans (nx_trans HW.out.2.2.2 K1.out.2.2.2.2.2) hbV, gblk K1.out.2.2.2.1 hbV, own_below K1.out.2.2.2.2.1 hbV⟩
  have HT := hideIt (text_any r ps vo vc m 0 V2 (own_row K2.out.2.2.2.2.2.2.2) K1.out.2.1 K1.out.1 (by constructor <;> omega))
  clear hok hm hown hb1 hV2 hbV a0 a1
  go_upto_region 3 with fail
  rw [← K2.out.2.2.1]
  obtain ⟨a0, a1⟩ := gblk2 K2.out.2.2.2.2.2.2.1
  go_wp2_with fail
  refine HT.out.mono ?_
  rintro e w3 ⟨⟨s, hs, rfl⟩, hb3⟩
  obtain ⟨hans, hsz⟩ := ans_text (stOf 0) (lastN ps) K1.out.1 (fun h => last_mem h) s hs
  have HN := hideIt (new_any s w3 (Nat.le_trans hsz (by unfold maxLen; omega)))
  rw [hans] at HN
  have HB3 := hideIt hb3
  clear hs hans hsz hb3 a0 a1
  go_wp2_with fail
  refine HN.out.mono ?_
  rintro e w4 hnew
  rcases hnew with ⟨h, _⟩ | ⟨_, gp, F, rfl, hd, hF, hb4⟩
  · exact absurd rfl h
  · have HD : Hid (DeskAt w4 gp (sta0 (r, ps)) ⟨0, 0, []⟩ F ∧ (∀ y, F y → w3.heap.size ≤ y) ∧ Below w3.heap.size w3 w4) := ⟨hd, hF, hb4⟩
    have HSH := hideIt (show_any gp (sta0 (r, ps)) ⟨0, 0, []⟩ F w4 hd ⟨by show ps.length ≤ _; rw [K1.out.2.1]; omega, by simp, by simp, by simp⟩)
    clear hd hF hb4
    go_wp2_with fail
    refine HSH.out.mono ?_
    rintro e w5 ⟨⟨p1, p2, s1, s2, q1, q2, t1, t2⟩, rfl, hn5, hb5⟩
    have hag : staA (sta0 (r, ps)) ⟨p1, p2, s1, s2, q1, q2, t1, t2⟩ = .agg #[.int .i64 r, .slice p1 m p2, .slice s1 0 s2, .slice q1 0 q2, .slice t1 0 t2, .bool false, .bool false] := by rw [← K1.out.2.1]; rfl
    rw [hag]
    obtain ⟨V5, hV5⟩ : ∃ V5, V5 = w5.alloc (bSt7 r (.slice p1 m p2) (.slice s1 0 s2) (.slice q1 0 q2) (.slice t1 0 t2) false false) := ⟨_, rfl⟩
    have hb35 : Below w3.heap.size w3 V5 := by rw [hV5]; exact nx_trans (nx_trans HD.out.2.2 hb5) (nx_alloc _ _)
    have K5 : Hid (V5 = w5.alloc (bSt7 r (.slice p1 m p2) (.slice s1 0 s2) (.slice q1 0 q2) (.slice t1 0 t2) false false) ∧ V5.heap[w5.heap.size]? = some (bSt7 r (.slice p1 m p2) (.slice s1 0 s2) (.slice q1 0 q2) (.slice t1 0 t2) false false) ∧ Below w3.heap.size w3 V5 ∧ Below w4.heap.size w4 V5 ∧ V5.heap[w1.heap.size]? = some (bTab r (.slice vo m vc)) ∧ V5.heap[w2.heap.size]? = some (bTab r2 (.slice vo2 m2 vc2))) :=
      ⟨hV5, by rw [hV5]; exact heap_alloc_at _ _ rfl, hb35, by rw [hV5]; exact nx_trans hb5 (nx_alloc _ _), gblk (gblk K2.out.2.2.2.2.2.2.1 HB3.out) hb35, gblk (gblk K2.out.2.2.2.1 HB3.out) hb35⟩
    have HS := hideIt (ksame_true r p1 vo m p2 vc ps V5 (by
      have h1 := (own_row hn5.p).nx (nx_alloc w5 (bSt7 r (.slice p1 m p2) (.slice s1 0 s2) (.slice q1 0 q2) (.slice t1 0 t2) false false))
      rw [← hV5] at h1
      rw [← K1.out.2.1]
      exact h1) (((own_row K2.out.2.2.2.2.2.2.2).nx HB3.out).nx hb35) K1.out.2.1 (by unfold maxLen; omega))
    clear hn5 hb5 hag hV5 hb35
    go_upto_region 7 with fail
    rw [← K5.out.1]
    obtain ⟨a0, a1, a2, a3, a4, a5, a6⟩ := gblk7 K5.out.2.1
    obtain ⟨c0, c1⟩ := gblk2 K5.out.2.2.2.2.1
    go_wp2_with fail
    refine HS.out.mono ?_
    rintro e w6 ⟨rfl, hb6⟩
    have K6 : Hid (Below w3.heap.size w3 w6 ∧ DeskAt w6 gp (sta0 (r, ps)) ⟨0, 0, []⟩ F ∧ w6.heap[w1.heap.size]? = some (bTab r (.slice vo m vc)) ∧ w6.heap[w2.heap.size]? = some (bTab r2 (.slice vo2 m2 vc2)) ∧ w1.heap.size < w3.heap.size ∧ w2.heap.size < w3.heap.size) :=
      ⟨nx_trans K5.out.2.2.1 hb6, HD.out.1.keep (G := fun _ => False) (Chg.of_below (nx_trans K5.out.2.2.2.1 hb6)) (fun _ _ h => h), gblk K5.out.2.2.2.2.1 hb6, gblk K5.out.2.2.2.2.2 hb6, (Array.getElem?_eq_some_iff.1 (gblk K2.out.2.2.2.2.2.2.1 HB3.out)).1, (Array.getElem?_eq_some_iff.1 (gblk K2.out.2.2.2.1 HB3.out)).1⟩
    have KO : Hid (w3.ownsRow 0 75 4 (.slice vo m vc) m (flatP ps) ∧ w3.ownsRow 0 75 4 (.slice vo2 m2 vc2) m2 (flatP ps2)) := ⟨own_below K2.out.2.2.2.2.2.2.2 HB3.out, own_below K2.out.2.2.2.2.1 HB3.out⟩
    obtain ⟨d0, d1, d2, d3, d4, d5, d6⟩ := gblk7 (gblk K5.out.2.1 hb6)
    have KF : Hid (∀ (w8 : World) (S : Sta) (X : Aux), Moved w6 w8 gp S X F → Fresh S X (r, ps) → OpenG w (w8.alloc (bGame gp r (.slice vo m vc) r2 (.slice vo2 m2 vc2))) (.returned (.tuple #[.pointer (some ⟨w8.heap.size, 0, none⟩), .bool true]))) := by
      intro w8 S X hmv hfr
      have e1 := K1.out.2.1
      have e2 := K2.out.2.1
      obtain ⟨F8, g1, g2, g3⟩ := opened_mk (A := (r, ps)) (B := (r2, ps2)) (ao := vo) (ac := vc) (bo := vo2) (bc := vc2) hmv HD.out.2.1 K6.out.1 (by rw [e1]; exact KO.out.1) (by rw [e2]; exact KO.out.2)
      simp only at g1 g2 g3
      rw [e1, e2] at g1 g3
      have hb03 : Below w.heap.size w w3 := nx_trans K2.out.2.2.2.2.2.1 HB3.out
      exact ⟨_, _, _, _, _, _, _, _, _, _, _, rfl, g1, K1.out.1, K2.out.1, hfr, fun y hy => Nat.le_trans hb03.size (g2 y hy), nx_trans hb03 g3⟩
    clear a0 a1 a2 a3 a4 a5 a6 c0 c1 hb6
    go_wp2_with fail
    clear d0 d1 d2 d3 d4 d5 d6
    obtain ⟨c0, c1⟩ := gblk2 K6.out.2.2.1
    obtain ⟨f0, f1⟩ := gblk2 K6.out.2.2.2.1
    go_loop [13] (fun i => ∃ k : Nat, k ≤ m ∧ i = .int .i64 k) (fun i => m - (intOf i).toNat)
    case atStart => exact ⟨0, Nat.zero_le _, rfl⟩
    case round =>
      obtain ⟨k, hk, rfl⟩ := hrel
      by_cases hlt : k < m
      · obtain ⟨⟨y0, y1, y2, y3⟩, hy⟩ : ∃ p, ps[k]? = some p := ⟨_, List.getElem?_eq_getElem (by rw [K1.out.2.1]; exact hlt)⟩
        obtain ⟨bl, off, hvo, hbl, g0, g1, g2, g3⟩ := pool_at ((own_row KO.out.1).nx K6.out.1) hy
        subst hvo
        simp only at g0 g1 g2 g3
        have hlti : (k : Int) < (m : Int) := by omega
        have HY := hideIt (List.mem_of_getElem? hy)
        clear hy
        by_cases hsz : 0 < y1
        · obtain ⟨hid, her, hhas⟩ := ask_first (A := (r, ps)) K1.out.1 HY.out hsz
          have hOK := ok0 (A := (r, ps)) K1.out.1
          have hp0 : pot (sta0 (r, ps), 0) + 1 ≤ 549755813888 := by show (0 : Int) + (([] : List Wtr).length : Int) + 1 ≤ _; simp
          have HA := hideIt (pAsk gp 1 y0 (sta0 (r, ps)) ⟨0, 0, []⟩ F w6 K6.out.2.1 hOK hp0)
          have HFR := hideIt (fresh1 (r, ps) y0)
          have hOK1 := ok_ask (good0 (r, ps)) hOK hp0 1 y0
          have hdn := done_first (op := (cAsk (sta0 (r, ps)) 0 1 y0).op) hhas
          obtain ⟨⟨D, t, id, er⟩, hR⟩ : ∃ R, cAsk (sta0 (r, ps)) 0 1 y0 = R := ⟨_, rfl⟩
          simp only at hid her
          simp only [hR] at hid her hOK1 hdn HFR
          simp only [hR] at HA
          subst hid her
          have HOK := hideIt hOK1
          have HDN := hideIt hdn
          clear hOK hp0 hhas hOK1 hdn hR
          go_wp2_with fail
          refine HA.out.mono ?_
          rintro e w7 ⟨rfl, hm7⟩
          simp only at hm7 ⊢
          obtain ⟨F7, hd7, hnx7⟩ := hm7.step
          have HDO := hideIt (pDone gp 1 D ⟨t, 0, []⟩ F7 w7 hd7 HOK.out)
          obtain ⟨⟨D2, t2', id2, er2⟩, hR2⟩ : ∃ R, cDone D t 1 = R := ⟨_, rfl⟩
          rw [hR2] at HDO HDN HFR
          have her2 : er2 = 0 := HDN.out
          subst her2
          have HNX := hideIt hnx7
          clear hm7 hd7 hnx7 hR2 c0 c1 f0 f1 g0 g1 g2 g3
          go_wp2_with fail
          refine HDO.out.mono ?_
          rintro e w8 ⟨rfl, hm8⟩
          simp only at hm8 ⊢
          have HM8 := hideIt (HNX.out _ _ _ hm8)
          have hnf : ∀ g, g < w3.heap.size → w8.heap[g]? = w6.heap[g]? := fun g hg => by
            obtain ⟨_, _, _, hch⟩ := HM8.out
            exact hch.block g (Nat.lt_of_lt_of_le hg K6.out.1.size) (fun hf => by have := HD.out.2.1 g hf; omega)
          obtain ⟨c0, c1⟩ := gblk2 ((hnf _ K6.out.2.2.2.2.1).trans K6.out.2.2.1)
          obtain ⟨f0, f1⟩ := gblk2 ((hnf _ K6.out.2.2.2.2.2).trans K6.out.2.2.2.1)
          have HFIN := hideIt (KF.out w8 D2 ⟨t2', 0, []⟩ HM8.out HFR.out)
          clear hm8 hnf
          go_wp2_with fail
          go_ret2
          exact HFIN.out
        · have hnz : ¬ y1 > 0 := hsz
          go_wp2_with fail
          go_round
          case rel => exact ⟨k + 1, by omega, by go_num⟩
          case measure => simp [intOf]; omega
      · have hlti : ¬ (k : Int) < (m : Int) := by omega
        have HFIN := hideIt (KF.out w6 (sta0 (r, ps)) ⟨0, 0, []⟩ (Moved.refl K6.out.2.1) (fresh0 (r, ps)))
        go_wp2_with fail
        go_ret2
        exact HFIN.out
end Lw
end Go.Proofs.YtohbonfngeblkaaGreat
