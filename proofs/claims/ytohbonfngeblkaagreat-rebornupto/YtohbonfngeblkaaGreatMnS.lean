import Derived.Test.YtohbonfngeblkaaGreatMnR
namespace Go.Proofs.YtohbonfngeblkaaGreat
open Go.RowKit
namespace Lw
open Co
theorem ids_len : ∀ (l : List Srv) (lo op : Int), l.Pairwise (fun a b => a.id < b.id) → (∀ x ∈ l, lo < x.id ∧ x.id ≤ op) → lo ≤ op → (l.length : Int) ≤ op - lo
  | [], lo, op, _, _, h => by simp; omega
  | y :: r, lo, op, hp, hb, _ => by
    have h1 := List.pairwise_cons.1 hp
    have hy := hb y (by simp)
    have := ids_len r y.id op h1.2 (fun x hx => ⟨h1.1 x hx, (hb x (by simp [hx])).2⟩) (by omega)
    simp; omega
theorem Inv.len {S : Sta} {op : Int} (h : Inv S op) : (S.srv.length : Int) ≤ op := by
  have := ids_len S.srv 0 op h.ids (fun x hx => by have := h.low x hx; omega) h.op0
  omega
theorem Inv.nz {S : Sta} {op : Int} (h : Inv S op) : ∀ x ∈ S.srv, x.id ≠ 0 := fun x hx => by have := h.low x hx; omega
def pot (y : Sta × Int) : Int := y.2 + y.1.wts.length
theorem filter_lt {α : Type} {p : α → Bool} : ∀ {l : List α} {x : α}, x ∈ l → p x = false → (l.filter p).length + 1 ≤ l.length
  | y :: r, x, hx, hp => by
    rcases List.mem_cons.1 hx with e | hx
    · rw [← e, List.filter_cons, if_neg (by rw [hp]; simp)]
      have := List.length_filter_le p r
      simp; omega
    · have := filter_lt hx hp
      rw [List.filter_cons]
      split
      · simp; omega
      · simp; omega
theorem give_pot {S : Sta} {op : Int} {c : Wtr} {y : Sta × Int} (h : cGive S op c = some y) : y.1.wts = S.wts ∧ y.2 ≤ op + 1 ∧ op ≤ y.2 ∧ y.1.pools = S.pools ∧ y.1.bud = S.bud ∧ y.1.plan = S.plan ∧ y.1.begun = S.begun ∧ y.1.back = S.back := by
  rw [give_eq] at h
  split at h
  · simp at h
  · split at h
    · simp at h; subst h; refine ⟨rfl, ?_, ?_, rfl, rfl, rfl, rfl, rfl⟩ <;> simp only <;> omega
    · split at h
      · simp at h
      · cases hr : cRoom S with
        | none => rw [hr] at h; simp at h
        | some T =>
          rw [hr] at h
          simp at h
          subst h
          have hT : T.wts = S.wts ∧ T.pools = S.pools ∧ T.bud = S.bud ∧ T.plan = S.plan ∧ T.begun = S.begun ∧ T.back = S.back := by
            unfold cRoom at hr
            split at hr
            · simp at hr; rw [← hr]; exact ⟨rfl, rfl, rfl, rfl, rfl, rfl⟩
            · split at hr
              · simp at hr
              · split at hr
                · simp at hr
                · simp at hr; rw [← hr]; exact ⟨rfl, rfl, rfl, rfl, rfl, rfl⟩
          refine ⟨hT.1, ?_, ?_, hT.2.1, hT.2.2.1, hT.2.2.2.1, hT.2.2.2.2.1, hT.2.2.2.2.2⟩ <;> simp only <;> omega
def Rest (S T : Sta) : Prop := T.pools = S.pools ∧ T.bud = S.bud ∧ T.plan = S.plan ∧ T.begun = S.begun ∧ T.back = S.back
theorem Rest.refl (S : Sta) : Rest S S := ⟨rfl, rfl, rfl, rfl, rfl⟩
theorem Rest.trans {S T U : Sta} (h : Rest S T) (k : Rest T U) : Rest S U := ⟨k.1.trans h.1, k.2.1.trans h.2.1, k.2.2.1.trans h.2.2.1, k.2.2.2.1.trans h.2.2.2.1, k.2.2.2.2.trans h.2.2.2.2⟩
theorem first_pot {S : Sta} {op : Int} : ∀ {l : List Wtr} {y : Sta × Int}, (∀ x ∈ l, x ∈ S.wts) → cFirst S op l = some y → pot y ≤ pot (S, op) ∧ op ≤ y.2 ∧ Rest S y.1
  | [], y, _, h => by simp [cFirst] at h
  | c :: r, y, hl, h => by
    rw [cFirst] at h
    cases hg : cGive S op c with
    | none => rw [hg] at h; exact first_pot (fun x hx => hl x (by simp [hx])) h
    | some z =>
      rw [hg] at h
      simp at h
      subst h
      obtain ⟨h1, h2, h3, h4, h5, h6, h7, h8⟩ := give_pot hg
      refine ⟨?_, h3, h4, h5, h6, h7, h8⟩
      have := filter_lt (p := fun x : Wtr => !decide (x.client = c.client)) (hl c (by simp)) (by simp)
      unfold pot cQuit
      simp only [h1]
      omega
theorem serve_pot : ∀ (f : Nat) (S : Sta) (op : Int), pot (cServe f S op) ≤ pot (S, op) ∧ op ≤ (cServe f S op).2 ∧ Rest S (cServe f S op).1
  | 0, S, op => by rw [cServe]; exact ⟨Int.le_refl _, Int.le_refl _, Rest.refl _⟩
  | f + 1, S, op => by
    rw [cServe]
    cases h : cFirst S op S.wts with
    | none => exact ⟨Int.le_refl _, Int.le_refl _, Rest.refl _⟩
    | some y =>
      have h1 := first_pot (fun _ hx => hx) h
      have h2 := serve_pot f y.1 y.2
      exact ⟨Int.le_trans h2.1 h1.1, Int.le_trans h1.2.1 h2.2.1, h1.2.2.trans h2.2.2⟩
theorem first_inv {S : Sta} {op : Int} (hI : Inv S op) {y : Sta × Int} (h : cFirst S op S.wts = some y) : Inv y.1 y.2 := by
  have h2 := (serve_eq 1 S op hI).2
  rw [cServe, h] at h2
  exact h2
theorem first_take {S : Sta} {op : Int} : ∀ {l : List Wtr} {k : Nat} {c : Wtr}, (∀ y ∈ l.take k, cGive S op y = none) → l[k]? = some c → cFirst S op l = match cGive S op c with | some y => some (cQuit y.1 c.client, y.2) | none => cFirst S op (l.drop (k + 1))
  | [], k, c, _, h => by simp at h
  | x :: r, 0, c, _, h => by
    simp at h
    subst h
    rw [cFirst]
    rfl
  | x :: r, k + 1, c, hn, h => by
    rw [cFirst, hn x (by simp)]
    exact first_take (fun y hy => hn y (by simp [hy])) (by simpa using h)
theorem first_no {S : Sta} {op : Int} : ∀ {l : List Wtr}, (∀ y ∈ l, cGive S op y = none) → cFirst S op l = none
  | [], _ => rfl
  | x :: r, hn => by
    rw [cFirst, hn x (by simp)]
    exact first_no (fun y hy => hn y (by simp [hy]))
structure Ok (S : Sta) (op : Int) : Prop where
  inv : Inv S op
  pot : pot (S, op) ≤ 549755813888
  pools : S.pools.length ≤ 1099511627776
set_option maxRecDepth 20000 in
set_option maxHeartbeats 4000000 in
theorem dFirst (gp : Nat) (S : Sta) (X : Aux) (F : Nat → Prop) (w : World) (h : DeskAt w gp S X F) (hok : Ok S X.op) :
    Calls Tryz.prog 89 #[.pointer (some ⟨gp, 0, none⟩)] w fun e w' => GaveG (cFirst S X.op S.wts) w w' gp S X F e := by
  have hL := hok.inv.len
  have hP := hok.pot
  have hO := hok.inv.op0
  unfold pot at hP
  simp only at hP
  obtain ⟨n3, hn3⟩ : ∃ n, S.wts.length = n := ⟨_, rfl⟩
  rw [hn3] at hP
  have HW := hideIt hn3
  have HK : Hid (S.srv.length + 1 ≤ 1099511627776 ∧ S.pools.length ≤ 1099511627776 ∧ (0 ≤ X.op ∧ X.op < 9223372036854775807) ∧ Inv S X.op) := ⟨by omega, hok.pools, ⟨hO, by omega⟩, hok.inv⟩
  have hq3 : n3 ≤ 1099511627776 := by omega
  have HH := hideIt h
  clear h hok hL hP hO hn3
  go_enter Tryz.func89, Tryz.ntmps89
  go_wp2_with fail
  go_loopw [3, 4] (fun i p4 wr => ∃ (k : Nat), k ≤ n3 ∧ i = .int .i64 k ∧ Hid (Moved w wr gp S X F ∧ ∀ y ∈ S.wts.take k, cGive S X.op y = none)) (fun i _ _ => n3 - (intOf i).toNat)
  case atStart => exact ⟨0, Nat.zero_le _, rfl, Moved.refl HH.out, by intro y hy; simp at hy⟩
  case round =>
    obtain ⟨k, hk, rfl, HS⟩ := hrel
    obtain ⟨F1, hd, hnx⟩ := HS.out.1.step
    have HD := hideIt hd
    have HNX := hideIt hnx
    obtain ⟨po, pc, so, sc, wo, wc, yo, yc, ho, hc, hx⟩ := hd.ex
    have HX := hideIt hx
    have hbx := hx.box
    rw [HW.out] at hbx
    obtain ⟨g0, g1, g2, g3, g4, gz⟩ := blk5d hbx
    clear hd hnx hx hbx
    by_cases hlt : k < n3
    · have hlti : (k : Int) < (n3 : Int) := by omega
      obtain ⟨⟨cc, cp⟩, hp⟩ : ∃ p, S.wts[k]? = some p := ⟨_, List.getElem?_eq_getElem (by rw [HW.out]; exact hlt)⟩
      have hrw := own_row HX.out.t.own
      obtain ⟨bl, off, hao, hbl, c0, c1⟩ := wt_at hrw hp
      subst hao
      simp only at c0 c1
      have HP : Hid (S.wts[k]? = some ⟨cc, cp⟩) := hp
      obtain ⟨W1, hW1⟩ : ∃ W1, W1 = wr.alloc (bWt cc cp) := ⟨_, rfl⟩
      have hbW : Below wr.heap.size wr W1 := by rw [hW1]; exact nx_alloc _ _
      have KW : Hid (W1 = wr.alloc (bWt cc cp) ∧ W1.heap[wr.heap.size]? = some (bWt cc cp) ∧ Below wr.heap.size wr W1) := ⟨hW1, by rw [hW1]; exact heap_alloc_at _ _ rfl, hbW⟩
      have HG := hideIt (dGive gp cc cp S X F1 W1 (HD.out.keep (G := fun _ => False) (Chg.of_below hbW) (fun _ _ h => h)) HK.out.2.2.2.nz HK.out.1 HK.out.2.1 HK.out.2.2.1)
      have HNF : Hid (¬ F1 wr.heap.size) := fun hf => by have := HD.out.lt _ hf; omega
      clear hp hrw hW1 hbW
      go_upto_region 5 with fail
      rw [← KW.out.1]
      clear g0 g1 g2 g3 g4 gz c0 c1
      obtain ⟨b0, b1, bz⟩ := blk2 KW.out.2.1
      go_wp2_with fail
      refine HG.out.mono ?_
      rintro e w2 ⟨rfl, hm⟩
      cases hgv : cGive S X.op ⟨cc, cp⟩ with
      | none =>
        rw [hgv] at hm
        have KM : Hid (Moved w w2 gp S X F ∧ ∀ y ∈ S.wts.take (k + 1), cGive S X.op y = none) := by
          refine ⟨HNX.out _ _ _ (Moved.after KW.out.2.2 hm), ?_⟩
          intro y hy
          obtain ⟨hk', e⟩ := List.getElem?_eq_some_iff.1 HP.out
          rw [List.take_succ_eq_append_getElem hk', e] at hy
          rcases List.mem_append.1 hy with hy | hy
          · exact HS.out.2 y hy
          · rw [List.mem_singleton.1 hy]; exact hgv
        simp only [Option.isSome_none]
        clear hm hgv b0 b1 bz
        go_wp2_with fail
        go_roundw
        case rel => exact ⟨k + 1, by omega, by go_num, KM.out⟩
        case measure => simp [intOf]; omega
      | some y =>
        obtain ⟨T, t⟩ := y
        rw [hgv] at hm
        simp only [Option.getD_some] at hm
        have HR : Hid (cFirst S X.op S.wts = some (cQuit T cc, t)) := by
          show _ = _
          rw [first_take HS.out.2 HP.out, hgv]
        have hTw : T.wts.length ≤ 1099511627776 := by rw [(give_pot hgv).1, HW.out]; exact hq3
        have hm' := hm
        obtain ⟨_, _, _, hch⟩ := hm'
        have hb2 : w2.heap[wr.heap.size]? = some (bWt cc cp) := (hch.block _ (Array.getElem?_eq_some_iff.1 KW.out.2.1).1 HNF.out).trans KW.out.2.1
        have KM : Hid (Moved w w2 gp T { X with op := t } F) := HNX.out _ _ _ (Moved.after KW.out.2.2 hm)
        clear b0 b1 bz
        obtain ⟨b0, b1, bz⟩ := blk2 hb2
        obtain ⟨F2, hd2, hnx2⟩ := KM.out.step
        have HQ := hideIt (dQuit gp cc T { X with op := t } F2 w2 hd2 hTw)
        have HNX2 := hideIt hnx2
        simp only [Option.isSome_some]
        clear hm hgv hTw hch hb2 hd2 hnx2
        go_wp2_with fail
        refine HQ.out.mono ?_
        rintro e w3 ⟨⟨x, rfl⟩, hm⟩
        have KF := hideIt (HNX2.out _ _ _ hm)
        clear hm b0 b1 bz
        go_wp2_with fail
        go_ret
        rw [HR.out]
        exact ⟨rfl, KF.out⟩
    · have HR : Hid (cFirst S X.op S.wts = none) := first_no (fun y hy => HS.out.2 y (by rw [List.take_of_length_le (by rw [HW.out]; omega)]; exact hy))
      go_wp2_with fail
      go_ret
      rw [HR.out]
      exact ⟨rfl, HS.out.1⟩
theorem Ok.first {S : Sta} {op : Int} (h : Ok S op) {y : Sta × Int} (hf : cFirst S op S.wts = some y) : Ok y.1 y.2 := by
  have hp := first_pot (fun _ hx => hx) hf
  exact ⟨first_inv h.inv hf, Int.le_trans hp.1 h.pot, by rw [hp.2.2.1]; exact h.pools⟩
set_option maxRecDepth 20000 in
set_option maxHeartbeats 4000000 in
theorem dServe (gp : Nat) (S : Sta) (X : Aux) (F : Nat → Prop) (w : World) (h : DeskAt w gp S X F) (hok : Ok S X.op) :
    Calls Tryz.prog 70 #[.pointer (some ⟨gp, 0, none⟩)] w fun e w' => (∃ x, e = .returned x) ∧ Moved w w' gp (cServe S.wts.length S X.op).1 { X with op := (cServe S.wts.length S X.op).2 } F := by
  obtain ⟨po, pc, so, sc, wo, wc, yo, yc, ho, hc, hx⟩ := h.ex
  have hL := hok.inv.op0
  have hP := hok.pot
  unfold pot at hP
  simp only at hP
  obtain ⟨n3, hn3⟩ : ∃ n, S.wts.length = n := ⟨_, rfl⟩
  have hbx := hx.box
  rw [hn3] at hbx hP ⊢
  have hq3 : n3 ≤ 1099511627776 := by omega
  obtain ⟨g0, g1, g2, g3, g4, gz⟩ := blk5d hbx
  have HH := hideIt h
  have HO := hideIt hok
  clear h hx hbx hok hL hP hn3
  go_enter Tryz.func70, Tryz.ntmps70
  go_wp2_with fail
  clear g0 g1 g2 g3 g4 gz
  go_loopw [2] (fun i wr => ∃ (r : Nat) (T : Sta) (t : Int), r ≤ n3 ∧ i = .int .i64 r ∧ Hid (Moved w wr gp T { X with op := t } F ∧ Ok T t ∧ cServe r T t = cServe n3 S X.op)) (fun i _ => (intOf i).toNat)
  case atStart => exact ⟨n3, S, X.op, Nat.le_refl _, rfl, Moved.refl HH.out, HO.out, rfl⟩
  case round =>
    obtain ⟨r, T, t, hr, rfl, HS⟩ := hrel
    by_cases hlt : 0 < r
    · have hlti : (0 : Int) < (r : Int) := by omega
      obtain ⟨F1, hd, hnx⟩ := HS.out.1.step
      have HF := hideIt (dFirst gp T { X with op := t } F1 wr hd HS.out.2.1)
      have HNX := hideIt hnx
      clear hd hnx
      go_wp2_with fail
      refine HF.out.mono ?_
      rintro e w2 ⟨rfl, hm⟩
      obtain ⟨r', rfl⟩ : ∃ r', r = r' + 1 := ⟨r - 1, by omega⟩
      have HE := HS.out.2.2
      rw [cServe] at HE
      simp only at hm ⊢
      cases hf : cFirst T t T.wts with
      | none =>
        rw [hf] at hm HE
        simp only [Option.getD_none] at hm
        have KF : Hid (Moved w w2 gp (cServe n3 S X.op).1 { X with op := (cServe n3 S X.op).2 } F) := by
          rw [← HE]; exact HNX.out _ _ _ hm
        simp only [Option.isSome_none]
        clear hm hf HE
        go_wp2_with fail
        refine bodyPost_ret (v := .tuple #[]) (by simp [results, Tryz.results70, go_sem]) rfl ?_
        exact ⟨⟨_, rfl⟩, KF.out⟩
      | some y =>
        rw [hf] at hm HE
        simp only [Option.getD_some] at hm HE
        have KF : Hid (Moved w w2 gp y.1 { X with op := y.2 } F ∧ Ok y.1 y.2 ∧ cServe r' y.1 y.2 = cServe n3 S X.op) := ⟨HNX.out _ _ _ hm, HS.out.2.1.first hf, HE⟩
        simp only [Option.isSome_some]
        clear hm hf HE
        go_wp2_with fail
        go_roundw
        case rel => exact ⟨r', y.1, y.2, by omega, by go_num, KF.out⟩
        case measure => simp [intOf]
    · obtain rfl : r = 0 := by omega
      have KF : Hid (Moved w wr gp (cServe n3 S X.op).1 { X with op := (cServe n3 S X.op).2 } F) := by
        have := HS.out.2.2
        rw [cServe] at this
        rw [← this]; exact HS.out.1
      go_wp2_with fail
      refine bodyPost_end (v := .tuple #[]) (by simp [results, Tryz.results70, go_sem]) rfl ?_
      exact ⟨⟨_, rfl⟩, KF.out⟩
end Lw
end Go.Proofs.YtohbonfngeblkaaGreat
namespace Go.Proofs.YtohbonfngeblkaaGreat
open Go.RowKit
namespace Lw
open Co
theorem cNot {l : List Wtr} {c : Int} (h : (l.find? (isCliW c)).isSome = false) : ∀ y ∈ l, y.client ≠ c := by
  intro y hy e
  have := none_of_find h y hy
  simp [isCliW, e] at this
theorem Inv.join {S : Sta} {op : Int} (h : Inv S op) {c : Int} {nm : ByteArray} (hn : ∀ y ∈ S.wts, y.client ≠ c) : Inv (joined S c nm) op := by
  refine ⟨h.ids, h.low, h.op0, ?_⟩
  show (S.wts ++ [(⟨c, nm⟩ : Wtr)]).Pairwise _
  rw [List.pairwise_append]
  refine ⟨h.cli, by simp, fun a ha b hb => ?_⟩
  rw [List.mem_singleton.1 hb]
  exact hn a ha
theorem inv_filterW {S : Sta} {op : Int} (h : Inv S op) (p : Wtr → Bool) : Inv { S with wts := S.wts.filter p } op := ⟨h.ids, h.low, h.op0, h.cli.sublist List.filter_sublist⟩
theorem inv_filterV {S : Sta} {op : Int} (h : Inv S op) (p : Srv → Bool) : Inv { S with srv := S.srv.filter p } op := ⟨h.ids.sublist List.filter_sublist, fun x hx => h.low x (List.mem_filter.1 hx).1, h.op0, h.cli⟩
theorem inv_hand {S : Sta} {op : Int} (h : Inv S op) (id c : Int) : Inv (cHand S id c) op := by
  have he : ∀ x : Srv, (if x.id = id then { x with client := c } else x).id = x.id := fun x => by split <;> rfl
  refine ⟨?_, ?_, h.op0, h.cli⟩
  · show (S.srv.map _).Pairwise _
    rw [List.pairwise_map]
    exact h.ids.imp (fun {a b} hab => by rw [he, he]; exact hab)
  · intro x hx
    obtain ⟨y, hy, rfl⟩ := List.mem_map.1 hx
    rw [he]
    exact h.low y hy
theorem Ok.serve {S : Sta} {op : Int} (h : Ok S op) (f : Nat) : Ok (cServe f S op).1 (cServe f S op).2 := by
  have hp := serve_pot f S op
  exact ⟨(serve_eq f S op h.inv).2, Int.le_trans hp.1 h.pot, by rw [hp.2.2.1]; exact h.pools⟩
def AskG (r : Res) (w w' : World) (gp : Nat) (X : Aux) (F : Nat → Prop) (e : Ending) : Prop :=
  e = .returned (.tuple #[.int .i64 r.id, .int .i64 (r.err : Int)]) ∧ Moved w w' gp r.S { X with op := r.op } F
def DoneG (r : Res) (w w' : World) (gp : Nat) (X : Aux) (F : Nat → Prop) (e : Ending) : Prop :=
  e = .returned (.int .i64 (r.err : Int)) ∧ Moved w w' gp r.S { X with op := r.op } F
set_option maxRecDepth 20000 in
set_option maxHeartbeats 2000000 in
theorem dLeave (gp : Nat) (c : Int) (S : Sta) (X : Aux) (F : Nat → Prop) (w : World) (h : DeskAt w gp S X F) (hok : Ok S X.op) :
    Calls Tryz.prog 63 #[.pointer (some ⟨gp, 0, none⟩), .int .i64 c] w fun e w' => DoneG (cLeave S X.op c) w w' gp X F e := by
  obtain ⟨po, pc, so, sc, wo, wc, yo, yc, ho, hc, hx⟩ := h.ex
  have hL := hok.inv.op0
  have hP := hok.pot
  unfold pot at hP
  simp only at hP
  have hq3 : S.wts.length ≤ 1099511627776 := by omega
  obtain ⟨g0, g1, g2, g3, g4, gz⟩ := blk5d hx.box
  have HIC := hideIt (cIsClient c w)
  have HW := hideIt (cWaits wo _ wc c S.wts w (own_row hx.t.own) rfl (by unfold maxLen; omega))
  have HQ := hideIt (dQuit gp c S X F w h hq3)
  have HH := hideIt h
  clear h hx hok hL hP
  obtain ⟨kb, hkb⟩ : ∃ b, okCli c = b := ⟨_, rfl⟩
  have HKB := hideIt hkb
  unfold okCli at hkb
  rw [hkb] at HIC
  obtain ⟨wb, hwb⟩ : ∃ b, (S.wts.find? (isCliW c)).isSome = b := ⟨_, rfl⟩
  have HWB := hideIt hwb
  rw [hwb] at HW
  clear hkb hwb
  go_enter Tryz.func63, Tryz.ntmps63
  go_wp2_with fail
  refine HIC.out.mono ?_
  rintro e w1 ⟨rfl, h1⟩
  obtain rfl := h1.symm
  cases kb with
  | false =>
    have HR : Hid (cLeave S X.op c = ⟨S, X.op, 0, 10⟩) := by
      show _ = _
      unfold cLeave; rw [if_pos HKB.out]
    go_wp2_with fail
    go_ret
    rw [HR.out]
    exact ⟨rfl, Moved.refl HH.out⟩
  | true =>
    go_wp2_with fail
    refine HW.out.mono ?_
    rintro e w1 ⟨rfl, h1⟩
    obtain rfl := h1.symm
    cases wb with
    | false =>
      have HR : Hid (cLeave S X.op c = ⟨S, X.op, 0, 14⟩) := by
        show _ = _
        unfold cLeave; rw [if_neg (by rw [HKB.out]; simp), if_pos HWB.out]
      go_wp2_with fail
      go_ret
      rw [HR.out]
      exact ⟨rfl, Moved.refl HH.out⟩
    | true =>
      have HR : Hid (cLeave S X.op c = ⟨cQuit S c, X.op, 0, 0⟩) := by
        show _ = _
        unfold cLeave; rw [if_neg (by rw [HKB.out]; simp), if_neg (by rw [HWB.out]; simp)]
      go_wp2_with fail
      refine HQ.out.mono ?_
      rintro e w2 ⟨⟨x, rfl⟩, hm⟩
      have KF := hideIt hm
      clear hm g0 g1 g2 g3 g4 gz
      go_wp2_with fail
      go_ret
      rw [HR.out]
      exact ⟨rfl, KF.out⟩
set_option maxRecDepth 20000 in
set_option maxHeartbeats 2000000 in
theorem dCrash (gp : Nat) (id : Int) (S : Sta) (X : Aux) (F : Nat → Prop) (w : World) (h : DeskAt w gp S X F) (hok : Ok S X.op) :
    Calls Tryz.prog 48 #[.pointer (some ⟨gp, 0, none⟩), .int .i64 id] w fun e w' => DoneG (cCrash S X.op id) w w' gp X F e := by
  obtain ⟨po, pc, so, sc, wo, wc, yo, yc, ho, hc, hx⟩ := h.ex
  have hL := hok.inv.op0
  have hP := hok.pot
  have hLn := hok.inv.len
  unfold pot at hP
  simp only at hP
  have hq3 : S.srv.length ≤ 1099511627776 := by omega
  obtain ⟨g0, g1, g2, g3, g4, gz⟩ := blk5d hx.box
  have HW := hideIt (cIsServer so _ sc id S.srv w (own_row hx.s.own) rfl (by unfold maxLen; omega))
  have HQ := hideIt (dShut gp id S X F w h hq3)
  have HH := hideIt h
  have HOK : Hid (Ok (cShut S id) X.op) := ⟨inv_filterV hok.inv _, hok.pot, hok.pools⟩
  clear h hx hok hL hP hLn
  obtain ⟨wb, hwb⟩ : ∃ b, (S.srv.find? (isId id)).isSome = b := ⟨_, rfl⟩
  have HWB : Hid ((S.srv.find? (fun x => x.id == id)).isSome = wb) := hwb
  rw [hwb] at HW
  clear hwb
  go_enter Tryz.func48, Tryz.ntmps48
  go_wp2_with fail
  refine HW.out.mono ?_
  rintro e w1 ⟨rfl, h1⟩
  obtain rfl := h1.symm
  cases wb with
  | false =>
    have HR : Hid (cCrash S X.op id = ⟨S, X.op, 0, 15⟩) := by
      show _ = _
      unfold cCrash; rw [if_pos HWB.out]
    go_wp2_with fail
    go_ret
    rw [HR.out]
    exact ⟨rfl, Moved.refl HH.out⟩
  | true =>
    have HR : Hid (cCrash S X.op id = ⟨(cServe S.wts.length (cShut S id) X.op).1, (cServe S.wts.length (cShut S id) X.op).2, 0, 0⟩) := by
      show _ = _
      unfold cCrash; rw [if_neg (by rw [HWB.out]; simp)]
    go_wp2_with fail
    refine HQ.out.mono ?_
    rintro e w2 ⟨⟨x, rfl⟩, hm⟩
    obtain ⟨F1, hd, hnx⟩ := hm.step
    have HSV := hideIt (dServe gp (cShut S id) X F1 w2 hd HOK.out)
    have HNX := hideIt hnx
    clear hm hd hnx g0 g1 g2 g3 g4 gz
    go_wp2_with fail
    refine HSV.out.mono ?_
    rintro e w3 ⟨⟨x, rfl⟩, hm⟩
    have KF := hideIt (HNX.out _ _ _ hm)
    clear hm
    go_wp2_with fail
    go_ret
    rw [HR.out]
    exact ⟨rfl, KF.out⟩
set_option maxRecDepth 20000 in
set_option maxHeartbeats 4000000 in
theorem dDone (gp : Nat) (c : Int) (S : Sta) (X : Aux) (F : Nat → Prop) (w : World) (h : DeskAt w gp S X F) (hok : Ok S X.op) :
    Calls Tryz.prog 61 #[.pointer (some ⟨gp, 0, none⟩), .int .i64 c] w fun e w' => DoneG (cDone S X.op c) w w' gp X F e := by
  obtain ⟨po, pc, so, sc, wo, wc, yo, yc, ho, hc, hx⟩ := h.ex
  have hL := hok.inv.op0
  have hP := hok.pot
  have hLn := hok.inv.len
  unfold pot at hP
  simp only at hP
  have hq3 : S.srv.length ≤ 1099511627776 := by omega
  have hgplt : gp < w.heap.size := h.lt gp h.gp
  obtain ⟨g0, g1, g2, g3, g4, gz⟩ := blk5d hx.box
  have HIC := hideIt (cIsClient c w)
  have HB := hideIt (cHeldBy so _ sc c S.srv w (own_row hx.s.own) rfl (by unfold maxLen; omega))
  have HZ := hideIt (orS_zero (p := isCliV c) hok.inv.nz)
  have HH := hideIt h
  have HOK := hideIt hok
  obtain ⟨⟨x0, x1, x2, x3⟩, hx0⟩ : ∃ x, orS (S.srv.find? (isCliV c)) = x := ⟨_, rfl⟩
  rw [hx0] at HB HZ
  simp only at HZ
  have HX0 := hideIt hx0
  clear h hx hok hL hP hLn hx0
  obtain ⟨kb, hkb⟩ : ∃ b, okCli c = b := ⟨_, rfl⟩
  have HKB := hideIt hkb
  unfold okCli at hkb
  rw [hkb] at HIC
  clear hkb
  go_enter Tryz.func61, Tryz.ntmps61
  go_wp2_with fail
  refine HIC.out.mono ?_
  rintro e w1 ⟨rfl, h1⟩
  obtain rfl := h1.symm
  cases kb with
  | false =>
    have HR : Hid (cDone S X.op c = ⟨S, X.op, 0, 10⟩) := by
      show _ = _
      unfold cDone; rw [if_pos HKB.out]
    go_wp2_with fail
    go_ret
    rw [HR.out]
    exact ⟨rfl, Moved.refl HH.out⟩
  | true =>
    go_wp2_with fail
    refine HB.out.mono ?_
    rintro e w1 ⟨rfl, hb1⟩
    obtain ⟨W1, hW1⟩ : ∃ W1, W1 = w1.alloc (bSv x0 x1 x2 x3) := ⟨_, rfl⟩
    have hbW : Below w.heap.size w W1 := by rw [hW1]; exact nx_trans hb1 (nx_alloc _ _)
    have KW : Hid (W1 = w1.alloc (bSv x0 x1 x2 x3) ∧ W1.heap[w1.heap.size]? = some (bSv x0 x1 x2 x3) ∧ Below w.heap.size w W1 ∧ ¬ F w1.heap.size) := ⟨hW1, by rw [hW1]; exact heap_alloc_at _ _ rfl, hbW, fun hf => by have := HH.out.lt _ hf; have := hb1.size; omega⟩
    have HD1 : Hid (DeskAt W1 gp S X F) := HH.out.keep (G := fun _ => False) (Chg.of_below hbW) (fun _ _ h => h)
    clear hb1 hW1 hbW g0 g1 g2 g3 g4 gz HB
    go_upto_region 4 with fail
    rw [← KW.out.1]
    obtain ⟨y0, y1, y2, y3, yz⟩ := blk4d KW.out.2.1
    cases hz : (x0 == 0) with
    | true =>
      have HR : Hid (cDone S X.op c = ⟨S, X.op, 0, 14⟩) := by
        show _ = _
        unfold cDone
        rw [if_neg (by rw [HKB.out]; simp)]
        cases hf : S.srv.find? (isCliV c) with
        | none => rfl
        | some s => have := HZ.out; rw [hz, hf] at this; simp at this
      go_wp2_with fail
      go_ret
      rw [HR.out]
      exact ⟨rfl, (Moved.refl HH.out).below KW.out.2.2.1⟩
    | false =>
      have HFS : Hid (S.srv.find? (isCliV c) = some ⟨x0, x1, x2, x3⟩) := by
        show _ = _
        cases hf : S.srv.find? (isCliV c) with
        | none => have := HZ.out; rw [hz, hf] at this; simp at this
        | some s => have := HX0.out; rw [hf] at this; exact congrArg some this
      have HHD := hideIt (dHand gp x0 0 S X F W1 HD1.out hq3)
      go_wp2_with fail
      refine HHD.out.mono ?_
      rintro e w2 ⟨⟨x, rfl⟩, hm2⟩
      have hch2 := hm2
      obtain ⟨_, _, _, hch2⟩ := hch2
      have hs2 : w2.heap[w1.heap.size]? = some (bSv x0 x1 x2 x3) := (hch2.block _ (Array.getElem?_eq_some_iff.1 KW.out.2.1).1 KW.out.2.2.2).trans KW.out.2.1
      obtain ⟨F2, hd2, hnx2⟩ := hm2.step
      have HOK2 : Hid (Ok (cHand S x0 0) X.op) := ⟨inv_hand HOK.out.inv _ _, HOK.out.pot, HOK.out.pools⟩
      have hl2 : (cHand S x0 0).srv.length ≤ 1099511627776 := by
        show (S.srv.map _).length ≤ _
        rw [List.length_map]; exact hq3
      have HSU := hideIt (dSurplus gp x0 x1 x2 x3 (cHand S x0 0) X F2 w2 hd2 hl2 HOK.out.pools)
      have K2 : Hid (DeskAt w2 gp (cHand S x0 0) X F2 ∧ (∀ w3 S2 X2, Moved w2 w3 gp S2 X2 F2 → Moved W1 w3 gp S2 X2 F) ∧ w2.heap[w1.heap.size]? = some (bSv x0 x1 x2 x3) ∧ (cHand S x0 0).srv.length ≤ 1099511627776) := ⟨hd2, hnx2, hs2, hl2⟩
      clear hm2 hch2 hs2 hd2 hnx2 hl2 y0 y1 y2 y3 yz HHD
      obtain ⟨y0, y1, y2, y3, yz⟩ := blk4d K2.out.2.2.1
      go_wp2_with fail
      refine HSU.out.mono ?_
      rintro e w3 ⟨rfl, hb3⟩
      have HCD : Hid (cDone S X.op c = ⟨(cServe S.wts.length (if isSur (cHand S x0 0) ⟨x0, x1, x2, x3⟩ = true then cShut (cHand S x0 0) x0 else cHand S x0 0) X.op).1, (cServe S.wts.length (if isSur (cHand S x0 0) ⟨x0, x1, x2, x3⟩ = true then cShut (cHand S x0 0) x0 else cHand S x0 0) X.op).2, 0, 0⟩) := by
        show _ = _
        unfold cDone
        rw [if_neg (by rw [HKB.out]; simp), HFS.out]
      have hs3 : w3.heap[w1.heap.size]? = some (bSv x0 x1 x2 x3) := (hb3.block _ (Array.getElem?_eq_some_iff.1 K2.out.2.2.1).1).trans K2.out.2.2.1
      have KD3 : Hid (DeskAt w3 gp (cHand S x0 0) X F2 ∧ Below w2.heap.size w2 w3) := ⟨K2.out.1.keep (G := fun _ => False) (Chg.of_below hb3) (fun _ _ h => h), hb3⟩
      clear y0 y1 y2 y3 yz hb3
      obtain ⟨y0, y1, y2, y3, yz⟩ := blk4d hs3
      clear hs3 HSU
      cases hsu : isSur (cHand S x0 0) ⟨x0, x1, x2, x3⟩ with
      | true =>
        rw [hsu, if_pos rfl] at HCD
        have HSH := hideIt (dShut gp x0 (cHand S x0 0) X F2 w3 KD3.out.1 K2.out.2.2.2)
        clear hsu
        go_wp2_with fail
        refine HSH.out.mono ?_
        rintro e w4 ⟨⟨x, rfl⟩, hm4⟩
        have hm4' := K2.out.2.1 _ _ _ (Moved.after KD3.out.2 hm4)
        obtain ⟨F4, hd4, hnx4⟩ := hm4'.step
        have HSV := hideIt (dServe gp (cShut (cHand S x0 0) x0) X F4 w4 hd4 ⟨inv_filterV HOK2.out.inv _, HOK2.out.pot, HOK2.out.pools⟩)
        have HNX := hideIt hnx4
        clear hm4 hm4' hd4 hnx4 y0 y1 y2 y3 yz
        go_wp2_with fail
        refine HSV.out.mono ?_
        rintro e w5 ⟨⟨x, rfl⟩, hm⟩
        have KF := hideIt (Moved.after KW.out.2.2.1 (HNX.out _ _ _ hm))
        clear hm
        go_wp2_with fail
        go_ret
        rw [HCD.out]
        exact ⟨rfl, KF.out⟩
      | false =>
        rw [hsu, if_neg (by simp)] at HCD
        have hm4' := K2.out.2.1 _ _ _ (Moved.after KD3.out.2 (Moved.refl KD3.out.1))
        obtain ⟨F4, hd4, hnx4⟩ := hm4'.step
        have HSV := hideIt (dServe gp (cHand S x0 0) X F4 w3 hd4 HOK2.out)
        have HNX := hideIt hnx4
        clear hm4' hd4 hnx4 hsu
        go_wp2_with fail
        refine HSV.out.mono ?_
        rintro e w5 ⟨⟨x, rfl⟩, hm⟩
        have KF := hideIt (Moved.after KW.out.2.2.1 (HNX.out _ _ _ hm))
        clear hm y0 y1 y2 y3 yz
        go_wp2_with fail
        go_ret
        rw [HCD.out]
        exact ⟨rfl, KF.out⟩
end Lw
end Go.Proofs.YtohbonfngeblkaaGreat
