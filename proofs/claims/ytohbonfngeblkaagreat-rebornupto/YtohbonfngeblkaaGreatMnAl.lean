import Derived.Test.YtohbonfngeblkaaGreatMnK
import Derived.Test.YtohbonfngeblkaaGreatMnAh
import Derived.Test.YtohbonfngeblkaaGreatMnAk
import Derived.Test.YtohbonfngeblkaaGreatMnAj
namespace Go.Proofs.YtohbonfngeblkaaGreat
open Go.RowKit
namespace Lw
open Co
theorem ins_upd {ps : List Pl} (hu : Df.Up ps) {nm : ByteArray} {p : Pl} (hp : Df.lk ps nm = some p) {f : Pl → Pl} (hf : ∀ q, (f q).nm = q.nm) : insP (f p) (ps.filter (othN nm)) = Df.updT nm f ps := by
  have hpn := Df.lk_nm hp
  have hd : ps.filter (othN nm) = Df.dropT nm ps := rfl
  have hfn : (f p).nm = nm := (hf p).trans hpn
  have hno : Df.lk (Df.dropT nm ps) (f p).nm = none := by rw [Df.lk_drop, if_pos hfn.symm]
  rw [hd]
  refine Df.up_ext (Df.up_ins _ (Df.up_drop nm hu) hno) (Df.up_upd hf nm hu) (fun m => ?_)
  rw [Df.lk_ins _ _ _ hno, Df.lk_upd hf, Df.lk_drop, hfn]
  by_cases h : nm = m
  · rw [if_pos h, if_pos h, ← h, hp]; rfl
  · rw [if_neg h, if_neg h, if_neg h]
theorem inP_lk {ps : List Pl} {nm : ByteArray} {p : Pl} (h : Df.lk ps nm = some p) : Df.inP ps nm = p := Df.inP_some h
theorem take_step {t : Int × List Pl} {s : Stp} (hu : Df.Up t.2) (hg : Df.goodS t s) : takeT s.kind s.name s.n t.1 t.2 = Df.stepT t s := by
  unfold takeT Df.stepT
  by_cases h3 : s.kind = 3 ∨ s.kind = 7
  · rw [if_pos h3, if_pos h3]
  · rw [if_neg h3, if_neg h3]
    by_cases h2 : s.kind = 2
    · rw [if_pos h2, if_pos h2]; rfl
    · rw [if_neg h2, if_neg h2]
      by_cases h4 : s.kind = 4
      · rw [if_pos h4, if_pos h4]
      · rw [if_neg h4, if_neg h4]
        have hp : ∃ p, Df.lk t.2 s.name = some p ∧ (s.kind = 1 ∨ s.kind = 5 ∨ s.kind = 6 ∨ s.kind = 8) := by
          rcases hg with ⟨h, _⟩ | ⟨h, _⟩ | ⟨h, _⟩ | ⟨h, _⟩ | ⟨p, hp, h⟩
          · exact absurd (.inl h) h3
          · exact absurd (.inr h) h3
          · exact absurd h h4
          · exact absurd h h2
          · exact ⟨p, hp, by rcases h with ⟨h, _⟩ | ⟨h, _⟩ | ⟨h, _⟩ | ⟨h, _⟩ <;> simp [h]⟩
        obtain ⟨p, hp, hk⟩ := hp
        rw [if_pos hk]
        unfold chgP
        rw [inP_lk hp]
        by_cases h5 : s.kind = 5
        · rw [if_pos h5]
          have : updP s.kind s.n p = (fun q : Pl => (⟨q.nm, q.sz, q.wt, s.n⟩ : Pl)) p := by simp [updP, h5]
          rw [this, ins_upd (f := fun q : Pl => (⟨q.nm, q.sz, q.wt, s.n⟩ : Pl)) hu hp (fun _ => rfl)]
        · rw [if_neg h5]
          by_cases h6 : s.kind = 6
          · rw [if_pos h6]
            have : updP s.kind s.n p = (fun q : Pl => (⟨q.nm, q.sz, s.n, q.fr⟩ : Pl)) p := by simp [updP, h6]
            rw [this, ins_upd (f := fun q : Pl => (⟨q.nm, q.sz, s.n, q.fr⟩ : Pl)) hu hp (fun _ => rfl)]
          · rw [if_neg h6]
            have h18 : s.kind = 1 ∨ s.kind = 8 := by
              rcases hk with h | h | h | h
              · exact .inl h
              · exact absurd h h5
              · exact absurd h h6
              · exact .inr h
            have : updP s.kind s.n p = (fun q : Pl => (⟨q.nm, s.n, q.wt, q.fr⟩ : Pl)) p := by
              rcases h18 with h | h <;> simp [updP, h]
            rw [this, ins_upd (f := fun q : Pl => (⟨q.nm, s.n, q.wt, q.fr⟩ : Pl)) hu hp (fun _ => rfl)]
structure Thin (S T : Sta) : Prop where
  srv : T.srv.Sublist S.srv
  keep : ∀ x ∈ S.srv, x.client ≠ 0 → x ∈ T.srv
  wts : T.wts.Sublist S.wts
  rest : Rest S T
theorem Thin.refl (S : Sta) : Thin S S := ⟨List.Sublist.refl _, fun _ h _ => h, List.Sublist.refl _, Rest.refl _⟩
theorem Thin.trans {S T U : Sta} (h : Thin S T) (k : Thin T U) : Thin S U := ⟨k.srv.trans h.srv, fun x hx h0 => k.keep x (h.keep x hx h0) h0, k.wts.trans h.wts, h.rest.trans k.rest⟩
theorem last_some {α : Type} {p : α → Bool} {l : List α} {s : α} (h : lastP p l = some s) : s ∈ l ∧ p s = true := by
  unfold lastP at h
  have := List.mem_of_getLast? h
  exact List.mem_filter.1 this
theorem last_none {α : Type} {p : α → Bool} {l : List α} (h : lastP p l = none) : ∀ x ∈ l, p x = false := by
  unfold lastP at h
  rw [List.getLast?_eq_none_iff, List.filter_eq_nil_iff] at h
  exact fun x hx => bool_ne (h x hx)
theorem shut_thin {S : Sta} {op : Int} (hi : Inv S op) {s : Srv} (hs : s ∈ S.srv) (h0 : s.client = 0) : Thin S (cShut S s.id) :=
  ⟨List.filter_sublist, fun x hx hx0 => List.mem_filter.2 ⟨hx, by
    simp only [Bool.not_eq_true', decide_eq_false_iff_not]
    exact fun e => hx0 (by rw [id_one hi hx hs e]; exact h0)⟩, List.Sublist.refl _, ⟨rfl, rfl, rfl, rfl, rfl⟩⟩
theorem inv_thin {S T : Sta} {op : Int} (hi : Inv S op) (h : Thin S T) : Inv T op := ⟨hi.ids.sublist h.srv, fun x hx => hi.low x (h.srv.subset hx), hi.op0, hi.cli.sublist h.wts⟩
theorem cnt_shut {S : Sta} {s : Srv} (hs : s ∈ S.srv) {p : Srv → Bool} (hp : p s = true) : cntG p (cShut S s.id).srv + 1 ≤ cntG p S.srv := by
  unfold cntG cShut
  simp only
  rw [List.filter_filter]
  have h1 : (S.srv.filter p).filter (fun x => !decide (x.id = s.id)) = S.srv.filter (fun x => p x && !decide (x.id = s.id)) := by
    rw [List.filter_filter]
    exact List.filter_congr (fun x _ => Bool.and_comm _ _)
  rw [← h1]
  have h2 : ((S.srv.filter p).filter (fun x => !decide (x.id = s.id))).length < (S.srv.filter p).length := by
    rw [List.length_filter_lt_length_iff_exists]
    exact ⟨s, List.mem_filter.2 ⟨hs, hp⟩, by simp⟩
  omega
theorem thinP_end (nm : ByteArray) (n : Int) (op : Int) : ∀ (f : Nat) (S : Sta), Inv S op → (cntG (isPoolV nm) S.srv : Int) - n ≤ f → Thin S (cThinP nm f S) ∧ ((cntG (isPoolV nm) (cThinP nm f S).srv : Int) ≤ n ∨ ∀ x ∈ (cThinP nm f S).srv, isPoolV nm x = true → x.client ≠ 0)
  | 0, S, hi, h => ⟨Thin.refl _, .inl (by show (cntG (isPoolV nm) S.srv : Int) ≤ n; simp at h; omega)⟩
  | f + 1, S, hi, h => by
    rw [cThinP]
    cases hl : lastP (fun s => isPoolV nm s && isCliV 0 s) S.srv with
    | none =>
      refine ⟨Thin.refl _, .inr fun x hx hp h0 => ?_⟩
      have := last_none hl x hx
      simp only [hp, Bool.true_and] at this
      unfold isCliV at this
      rw [h0] at this
      simp at this
    | some s =>
      obtain ⟨hs, hp⟩ := last_some hl
      simp only [Bool.and_eq_true] at hp
      have h0 : s.client = 0 := eq_of_beq hp.2
      have ht := shut_thin hi hs h0
      have hc := cnt_shut hs hp.1
      obtain ⟨k1, k2⟩ := thinP_end nm n op f (cShut S s.id) (inv_thin hi ht) (by omega)
      exact ⟨ht.trans k1, k2⟩
theorem thinA_end (n : Int) (op : Int) : ∀ (f : Nat) (S : Sta), Inv S op → (S.srv.length : Int) - n ≤ f → Thin S (cThinA f S) ∧ (((cThinA f S).srv.length : Int) ≤ n ∨ ∀ x ∈ (cThinA f S).srv, x.client ≠ 0)
  | 0, S, hi, h => ⟨Thin.refl _, .inl (by show (S.srv.length : Int) ≤ n; simp at h; omega)⟩
  | f + 1, S, hi, h => by
    rw [cThinA]
    cases hl : lastP (isCliV 0) S.srv with
    | none =>
      refine ⟨Thin.refl _, .inr fun x hx h0 => ?_⟩
      have := last_none hl x hx
      unfold isCliV at this
      rw [h0] at this
      simp at this
    | some s =>
      obtain ⟨hs, hp⟩ := last_some hl
      have h0 : s.client = 0 := eq_of_beq hp
      have ht := shut_thin hi hs h0
      have hc : (cShut S s.id).srv.length < S.srv.length := by
        unfold cShut
        simp only
        rw [List.length_filter_lt_length_iff_exists]
        exact ⟨s, hs, by simp⟩
      obtain ⟨k1, k2⟩ := thinA_end n op f (cShut S s.id) (inv_thin hi ht) (by omega)
      exact ⟨ht.trans k1, k2⟩
theorem quit_thin (S : Sta) (c : Int) : Thin S (cQuit S c) := ⟨List.Sublist.refl _, fun _ h _ => h, List.filter_sublist, ⟨rfl, rfl, rfl, rfl, rfl⟩⟩
theorem thinL_end (nm : ByteArray) (n : Int) (hn : 0 ≤ n) : ∀ (f : Nat) (S : Sta), (cntG (isPoolW nm) S.wts : Int) - n ≤ f → Thin S (cThinL nm f S) ∧ (cThinL nm f S).srv = S.srv ∧ (cntG (isPoolW nm) (cThinL nm f S).wts : Int) ≤ n
  | 0, S, h => ⟨Thin.refl _, rfl, by show (cntG (isPoolW nm) S.wts : Int) ≤ n; simp at h; omega⟩
  | f + 1, S, h => by
    rw [cThinL]
    have ht := quit_thin S (orW (lastP (isPoolW nm) S.wts)).client
    have hc : (cntG (isPoolW nm) (cQuit S (orW (lastP (isPoolW nm) S.wts)).client).wts : Int) - n ≤ f := by
      cases hl : lastP (isPoolW nm) S.wts with
      | none =>
        have h0 : cntG (isPoolW nm) S.wts = 0 := by
          unfold cntG
          rw [List.filter_eq_nil_iff.2 (fun x hx => by rw [last_none hl x hx]; simp)]
          rfl
        have h1 : cntG (isPoolW nm) (cQuit S (orW (none : Option Wtr)).client).wts ≤ cntG (isPoolW nm) S.wts := cntW_sub List.filter_sublist
        omega
      | some s =>
        obtain ⟨hs, hp⟩ := last_some hl
        have h1 : cntG (isPoolW nm) (cQuit S s.client).wts + 1 ≤ cntG (isPoolW nm) S.wts := by
          unfold cntG cQuit
          simp only
          rw [List.filter_filter]
          have h1 : (S.wts.filter (isPoolW nm)).filter (fun x => !decide (x.client = s.client)) = S.wts.filter (fun x => isPoolW nm x && !decide (x.client = s.client)) := by
            rw [List.filter_filter]
            exact List.filter_congr (fun x _ => Bool.and_comm _ _)
          rw [← h1]
          have h2 : ((S.wts.filter (isPoolW nm)).filter (fun x => !decide (x.client = s.client))).length < (S.wts.filter (isPoolW nm)).length := by
            rw [List.length_filter_lt_length_iff_exists]
            exact ⟨s, List.mem_filter.2 ⟨hs, hp⟩, by simp⟩
          omega
        show (cntG (isPoolW nm) (cQuit S s.client).wts : Int) - n ≤ f
        omega
    obtain ⟨k1, k2, k3⟩ := thinL_end nm n hn f (cQuit S (orW (lastP (isPoolW nm) S.wts)).client) hc
    exact ⟨ht.trans k1, k2, k3⟩
theorem shutF_end (S : Sta) (nm : ByteArray) (far : Int) : Thin S (cShutF S nm far) ∧ ∀ x ∈ (cShutF S nm far).srv, x.client = 0 → isPoolV nm x = true → x.far = far := by
  refine ⟨⟨List.filter_sublist, fun x hx h0 => List.mem_filter.2 ⟨hx, ?_⟩, List.Sublist.refl _, ⟨rfl, rfl, rfl, rfl, rfl⟩⟩, fun x hx h0 hp => ?_⟩
  · unfold keepF
    have : isCliV 0 x = false := bool_ne (fun e => h0 (eq_of_beq e))
    simp [isCliV] at this
    simp [this]
  · have h1 := (List.mem_filter.1 hx).2
    unfold keepF othF at h1
    rw [hp, h0] at h1
    simpa using h1
end Lw
end Go.Proofs.YtohbonfngeblkaaGreat
namespace Go.Proofs.YtohbonfngeblkaaGreat
open Go.RowKit
namespace Lw
open Co
theorem wLeft (gp : Nat) (b : Int) (po : Option Addr) (n1 pc : Nat) (so : Option Addr) (n2 sc : Nat) (wo : Option Addr) (n3 wc : Nat) (op : Int) (yo : Option Addr) (n4 yc : Nat) (bg bk : Bool) (hb : Int) (ho : Option Addr) (n5 hc : Nat) (w : World) (hgp : w.heap[gp]? = some (bDesk b po n1 pc so n2 sc wo n3 wc op ⟨.slice yo n4 yc, bg, bk, hb, .slice ho n5 hc⟩)) :
    Calls Tryz.prog 54 #[.pointer (some ⟨gp, 5, none⟩)] w fun e w' => e = .returned (.int .i64 (n4 : Int)) ∧ w' = w := by
  obtain ⟨g5, g6, g7, g8, g9, gz⟩ := blkWd hgp
  clear hgp
  go_enter Tryz.func54, Tryz.ntmps54
  go_wp2_with fail
  go_ret
  exact ⟨rfl, rfl⟩
set_option maxRecDepth 20000 in
set_option maxHeartbeats 2000000 in
theorem wFirst (gp : Nat) (b : Int) (po : Option Addr) (n1 pc : Nat) (so : Option Addr) (n2 sc : Nat) (wo : Option Addr) (n3 wc : Nat) (op : Int) (yo : Option Addr) (n4 yc : Nat) (bg bk : Bool) (hb : Int) (ho : Option Addr) (n5 hc : Nat) (x0 : Int) (x1 : ByteArray) (x2 : Int) (ts : List Stp) (w : World) (hgp : w.heap[gp]? = some (bDesk b po n1 pc so n2 sc wo n3 wc op ⟨.slice yo n4 yc, bg, bk, hb, .slice ho n5 hc⟩)) (hr : RowAt w (.slice yo n4 yc) n4 (flatT ts)) (hn : ts.length = n4) (hx : ts[0]? = some ⟨x0, x1, x2⟩) :
    Calls Tryz.prog 64 #[.pointer (some ⟨gp, 5, none⟩)] w fun e w' => e = .returned (stA x0 x1 x2) ∧ Below w.heap.size w w' := by
  have h0 : 0 < n4 := by rw [← hn]; exact (List.getElem?_eq_some_iff.1 hx).1
  have hgplt : gp < w.heap.size := (Array.getElem?_eq_some_iff.1 hgp).1
  obtain ⟨W, hW⟩ : ∃ W, W = w.alloc (bSt 0 ⟨#[]⟩ 0) := ⟨_, rfl⟩
  have hbW : Below w.heap.size w W := by rw [hW]; exact nx_alloc _ _
  have HW : Hid (W = w.alloc (bSt 0 ⟨#[]⟩ 0) ∧ W.heap[w.heap.size]? = some (bSt 0 ⟨#[]⟩ 0) ∧ Below w.heap.size w W) := ⟨hW, by rw [hW]; exact heap_alloc_at _ _ rfl, hbW⟩
  obtain ⟨g5, g6, g7, g8, g9, gz⟩ := blkWd ((hbW.block gp hgplt).trans hgp)
  obtain ⟨bl, off, hyo, hbl, c0, c1, c2⟩ := st_at (hr.nx hbW) hx
  subst hyo
  simp only [Nat.zero_mul, Nat.add_zero] at c0 c1 c2
  obtain ⟨b0, b1, b2, bz⟩ := blk3d HW.out.2.1
  have hne : ((n4 : Int) == 0) = false := beq_eq_false_iff_ne.2 (by omega)
  have h0i : (0 : Int) < (n4 : Int) := by omega
  have h0j : ¬ (n4 : Int) = 0 := by omega
  clear hgp hr hn hx hW hbW
  go_enter Tryz.func64, Tryz.ntmps64
  go_upto_region 1 with fail
  rw [← HW.out.1]
  go_wp2_with fail
  refine bodyPost_ret (v := stA x0 x1 x2) (by simp [results, Tryz.results64, go_sem, b0, b1, b2]) rfl ⟨rfl, ?_⟩
  have hg : w.heap.size ≤ w.heap.size := Nat.le_refl _
  exact ((HW.out.2.2.setCell hg _).setCell hg _).setCell hg _
set_option maxRecDepth 20000 in
set_option maxHeartbeats 2000000 in
theorem cBehind (so : Option Addr) (n2 sc : Nat) (ts : List Stp) (w : World) (hr : RowAt w (.slice so n2 sc) n2 (flatT ts)) (hn : ts.length = n2) (hq : n2 ≤ 1099511627776) (h1 : 1 ≤ n2) :
    Calls Tryz.prog 88 #[.slice so n2 sc] w fun e w' => ∃ vo vc, e = .returned (.slice vo ts.tail.length vc) ∧ w'.ownsRow w.heap.size 71 3 (.slice vo ts.tail.length vc) ts.tail.length (flatT ts.tail) ∧ Below w.heap.size w w' := by
  have HR : Hid (RowAt w (.slice so n2 sc) n2 (flatT ts) ∧ ts.length = n2) := ⟨hr, hn⟩
  clear hr hn
  go_enter Tryz.func88, Tryz.ntmps88
  go_wp2_with fail
  go_loopw [3, 4] (fun l i wr => ∃ (k m : Nat) (vo : Option Addr) (vc : Nat), k ≤ n2 ∧ 1 ≤ k ∧ m ≤ k ∧ i = .int .i64 k ∧ l = .slice vo m vc ∧ Hid ((ts.take k).tail.length = m ∧ wr.ownsRow w.heap.size 71 3 (.slice vo m vc) m (flatT (ts.take k).tail) ∧ Below w.heap.size w wr)) (fun _ i _ => n2 - (intOf i).toNat)
  case atStart =>
    refine ⟨1, 0, some ⟨w.heap.size, 0, none⟩, 0, h1, Nat.le_refl _, Nat.zero_le _, rfl, rfl, ?_, ?_, nx_alloc _ _⟩
    · cases ts <;> rfl
    · have : (ts.take 1).tail = [] := by cases ts <;> rfl
      rw [this]
      exact made0 w _ 3 _ rfl _ (Nat.le_refl _)
  case round =>
    obtain ⟨k, m, vo, vc, hk, hk1, hm, rfl, rfl, HS⟩ := hrel
    by_cases hlt : k < n2
    · obtain ⟨⟨x0, x1, x2⟩, hp⟩ : ∃ p, ts[k]? = some p := ⟨_, List.getElem?_eq_getElem (by rw [HR.out.2]; exact hlt)⟩
      obtain ⟨bl, off, hao, hbl, c0, c1, c2⟩ := st_at (HR.out.1.nx HS.out.2.2) hp
      subst hao
      simp only at c0 c1 c2
      have hlti : (k : Int) < (n2 : Int) := by omega
      have HN : Hid ((ts.take (k + 1)).tail = (ts.take k).tail ++ [⟨x0, x1, x2⟩]) := by
        obtain ⟨hk', e⟩ := List.getElem?_eq_some_iff.1 hp
        show _ = _
        rw [← List.drop_one, ← List.drop_one, List.take_succ_eq_append_getElem hk', List.drop_append_of_le_length (by rw [List.length_take]; omega), e]
      clear hp
      go_wp2_with (at_builtin; refine appendG 71 31 3 32 _ info_S2 Tryz.underlying31 rfl (by decide) (by decide) rfl (.tmp 12) (.tmp 17) rfl w.heap.size _ m (flatT (ts.take k).tail) rfl (HS.out.2.1.alloc _) (some ⟨wr.heap.size, 0, none⟩) 1 1 [.int .i64 x0, .string x1, .int .i64 x2] rfl rfl (row_new wr [.int .i64 x0, .string x1, .int .i64 x2] _ 1 rfl) (by intro u hu; simp at hu; rcases hu with rfl | rfl | rfl <;> rfl) (fun h => by cases h) (by omega) (by simp; have := HS.out.2.2.size; omega) ?next)
      case next =>
        intro v' w6 hown6 hb6
        obtain ⟨vo6, vc6, rfl, _⟩ := own_row hown6
        have K6 : Hid ((ts.take (k + 1)).tail.length = m + 1 ∧ w6.ownsRow w.heap.size 71 3 (.slice vo6 (m + 1) vc6) (m + 1) (flatT (ts.take (k + 1)).tail) ∧ Below w.heap.size w w6) := by
          refine ⟨by rw [HN.out, List.length_append, HS.out.1]; rfl, ?_, (HS.out.2.2.alloc HS.out.2.2.size _).trans hb6⟩
          rw [HN.out]
          unfold flatT
          rw [List.flatMap_append]
          exact hown6
        clear hown6 hb6
        go_wp2_with fail
        go_roundw
        case rel => exact ⟨k + 1, m + 1, vo6, vc6, by omega, by omega, by omega, by go_num, rfl, K6.out⟩
        case measure => simp [intOf]; omega
    · have HE : Hid (ts.tail.length = m ∧ wr.ownsRow w.heap.size 71 3 (.slice vo m vc) m (flatT ts.tail) ∧ Below w.heap.size w wr) := by
        have ht : ts.take k = ts := List.take_of_length_le (by rw [HR.out.2]; omega)
        have := HS.out
        rw [ht] at this
        exact this
      go_wp2_with fail
      go_ret
      refine ⟨vo, vc, ?_, ?_, HE.out.2.2⟩
      · rw [HE.out.1]; rfl
      · rw [HE.out.1]; exact HE.out.2.1
set_option maxRecDepth 20000 in
set_option maxHeartbeats 2000000 in
theorem dTable (gp : Nat) (b : Int) (po : Option Addr) (n1 pc : Nat) (so : Option Addr) (n2 sc : Nat) (wo : Option Addr) (n3 wc : Nat) (op : Int) (yo : Option Addr) (n4 yc : Nat) (bg bk : Bool) (hb : Int) (ho : Option Addr) (n5 hc : Nat) (ps : List Pl) (w : World) (hgp : w.heap[gp]? = some (bDesk b po n1 pc so n2 sc wo n3 wc op ⟨.slice yo n4 yc, bg, bk, hb, .slice ho n5 hc⟩)) (hr : w.ownsRow 0 75 4 (.slice po n1 pc) n1 (flatP ps)) (hn : ps.length = n1) (hq : n1 ≤ 1000) :
    Calls Tryz.prog 55 #[.pointer (some ⟨gp, 0, none⟩)] w fun e w' => ∃ vo vc, e = .returned (.agg #[.int .i64 b, .slice vo n1 vc]) ∧ w'.ownsRow w.heap.size 75 4 (.slice vo n1 vc) n1 (flatP ps) ∧ Below w.heap.size w w' := by
  have hgplt : gp < w.heap.size := (Array.getElem?_eq_some_iff.1 hgp).1
  obtain ⟨W, hW⟩ : ∃ W, W = w.alloc (bTab 0 (.slice none 0 0)) := ⟨_, rfl⟩
  have hbW : Below w.heap.size w W := by rw [hW]; exact nx_alloc _ _
  have HW : Hid (W = w.alloc (bTab 0 (.slice none 0 0)) ∧ W.heap[w.heap.size]? = some (bTab 0 (.slice none 0 0)) ∧ Below w.heap.size w W) := ⟨hW, by rw [hW]; exact heap_alloc_at _ _ rfl, hbW⟩
  have HC := hideIt (copy_any b ps po n1 pc W ((own_row hr).nx hbW) (own_nilc hr) hn (by omega))
  obtain ⟨g0, g1, g2, g3, g4, gz⟩ := blk5d ((hbW.block gp hgplt).trans hgp)
  clear hgp hr hn hW hbW
  go_enter Tryz.func55, Tryz.ntmps55
  go_upto_region 1 with fail
  rw [← HW.out.1]
  go_wp2_with fail
  refine HC.out.mono ?_
  rintro e w1 ⟨vo, vc, rfl, hown, hb⟩
  have hz1 : w1.heap[w.heap.size]? = some (bTab 0 (.slice none 0 0)) := (hb.block _ (Array.getElem?_eq_some_iff.1 HW.out.2.1).1).trans HW.out.2.1
  have hsz : w.heap.size < W.heap.size := (Array.getElem?_eq_some_iff.1 HW.out.2.1).1
  have K : Hid (w1.ownsRow W.heap.size 75 4 (.slice vo n1 vc) n1 (flatP ps) ∧ Below w.heap.size w w1 ∧ w.heap.size < W.heap.size) := ⟨hown, nx_trans HW.out.2.2 hb, hsz⟩
  obtain ⟨b0, b1, bz⟩ := blk2 hz1
  clear hown hb hz1 hsz g0 g1 g2 g3 g4 gz
  go_wp2_with fail
  refine bodyPost_ret (v := .agg #[.int .i64 b, .slice vo n1 vc]) (by simp [results, Tryz.results55, go_sem, b0, b1]) rfl ⟨vo, vc, rfl, ?_, ?_⟩
  · exact own_mono (ownsRow_setCell_below (ownsRow_setCell_below K.out.1 K.out.2.2 _) K.out.2.2 _) (Nat.le_of_lt K.out.2.2)
  · have hg : w.heap.size ≤ w.heap.size := Nat.le_refl _
    exact (K.out.2.1.setCell hg _).setCell hg _
def WayG (L : List Stp) (bk : Bool) (H : Int × List Pl) (w w' : World) (e : Ending) : Prop :=
  ∃ vo vc ho hc, e = .returned (.agg #[.slice vo L.length vc, .bool false, .bool bk, .int .i64 H.1, .slice ho H.2.length hc]) ∧ w'.ownsRow w.heap.size 71 3 (.slice vo L.length vc) L.length (flatT L) ∧ w'.ownsRow w.heap.size 75 4 (.slice ho H.2.length hc) H.2.length (flatP H.2) ∧ Below w.heap.size w w'
abbrev zWay : Obj := .cells #[.slice none 0 0, .bool false, .bool false, .int .i64 0, .slice none 0 0] 80
theorem way_ret {w w1 : World} {V : World} (hV : Below w.heap.size w V) (hsz : w.heap.size < V.heap.size) (hb : Below V.heap.size V w1) (v0 v1 v2 v3 v4 : Value) : Below w.heap.size w (((((w1.setCell ⟨w.heap.size, 0, none⟩ v0).setCell ⟨w.heap.size, 1, none⟩ v1).setCell ⟨w.heap.size, 2, none⟩ v2).setCell ⟨w.heap.size, 3, none⟩ v3).setCell ⟨w.heap.size, 4, none⟩ v4) := by
  have hg : w.heap.size ≤ w.heap.size := Nat.le_refl _
  have _ := hsz
  exact (((((nx_trans hV hb).setCell hg _).setCell hg _).setCell hg _).setCell hg _).setCell hg _
theorem own_set5 {w : World} {B g : Nat} {e : TypeId} {sz n : Nat} {v : Value} {cs : List Value} (h : w.ownsRow B e sz v n cs) (hg : g < B) (v0 v1 v2 v3 v4 : Value) : (((((w.setCell ⟨g, 0, none⟩ v0).setCell ⟨g, 1, none⟩ v1).setCell ⟨g, 2, none⟩ v2).setCell ⟨g, 3, none⟩ v3).setCell ⟨g, 4, none⟩ v4).ownsRow B e sz v n cs :=
  ownsRow_setCell_below (ownsRow_setCell_below (ownsRow_setCell_below (ownsRow_setCell_below (ownsRow_setCell_below h hg _) hg _) hg _) hg _) hg _
end Lw
end Go.Proofs.YtohbonfngeblkaaGreat
