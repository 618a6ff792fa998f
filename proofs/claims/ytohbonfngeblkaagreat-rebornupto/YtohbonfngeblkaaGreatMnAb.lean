import Derived.Test.YtohbonfngeblkaaGreatMnT
namespace Go.Proofs.YtohbonfngeblkaaGreat
open Go.RowKit
namespace Lw
open Co
def lastP {α : Type} (p : α → Bool) (l : List α) : Option α := (l.filter p).getLast?
theorem lastP_next {α : Type} {p : α → Bool} {l : List α} {k : Nat} {x : α} (hx : l[k]? = some x) : lastP p (l.take (k + 1)) = if p x = true then some x else lastP p (l.take k) := by
  obtain ⟨hk, e⟩ := List.getElem?_eq_some_iff.1 hx
  unfold lastP
  rw [List.take_succ_eq_append_getElem hk, List.filter_append, e]
  cases hp : p x <;> simp [hp]
abbrev zWtr : Wtr := ⟨0, ⟨#[]⟩⟩
def orW (o : Option Wtr) : Wtr := match o with | some s => s | none => zWtr
abbrev bSx (x : Srv) : Obj := bSv x.id x.pool x.far x.client
abbrev bWx (x : Wtr) : Obj := bWt x.client x.pool
set_option maxRecDepth 20000 in
set_option maxHeartbeats 2000000 in
theorem cLastIdle (ao : Option Addr) (n ac : Nat) (ss : List Srv) (w : World) (hr : RowAt w (.slice ao n ac) n (flatV ss)) (hn : ss.length = n) (hlen : n ≤ maxLen) :
    Calls Tryz.prog 123 #[.slice ao n ac] w fun e w' => e = .returned (svA (orS (lastP (isCliV 0) ss))) ∧ Below w.heap.size w w' := by
  unfold maxLen at hlen
  have hb0 : Below w.heap.size w ((w.alloc (bSx zSrv)).alloc (bSx zSrv)) := nx_trans (nx_alloc _ _) (nx_alloc _ _)
  have HR : Hid (RowAt w (.slice ao n ac) n (flatV ss) ∧ ss.length = n) := ⟨hr, hn⟩
  have HZ : Hid (Below w.heap.size w ((w.alloc (bSx zSrv)).alloc (bSx zSrv)) ∧ ((w.alloc (bSx zSrv)).alloc (bSx zSrv)).heap[w.heap.size]? = some (bSx zSrv) ∧ ((w.alloc (bSx zSrv)).alloc (bSx zSrv)).heap[w.heap.size + 1]? = some (bSx zSrv)) := ⟨hb0, (heap_alloc_lt _ _ (by simp)).trans (heap_alloc_at _ _ rfl), heap_alloc_at _ _ (by simp)⟩
  clear hr hn hb0
  go_enter Tryz.func123, Tryz.ntmps123
  go_wp2_with fail
  go_loopw [4] (fun i wr => ∃ k : Nat, k ≤ n ∧ i = .int .i64 k ∧ Hid (wr.heap[w.heap.size + 1]? = some (bSx (orS (lastP (isCliV 0) (ss.take k)))) ∧ wr.heap[w.heap.size]? = some (bSx zSrv) ∧ Below w.heap.size w wr)) (fun i _ => n - (intOf i).toNat)
  case atStart => exact ⟨0, Nat.zero_le _, rfl, HZ.out.2.2, HZ.out.2.1, HZ.out.1⟩
  case round =>
    obtain ⟨k, hk, rfl, HT⟩ := hrel
    obtain ⟨b0, b1, b2, b3, bz⟩ := blk4d HT.out.1
    obtain ⟨y0, y1, y2, y3, yz⟩ := blk4d HT.out.2.1
    by_cases hlt : k < n
    · obtain ⟨⟨x0, x1, x2, x3⟩, hp⟩ : ∃ p, ss[k]? = some p := ⟨_, List.getElem?_eq_getElem (by rw [HR.out.2]; exact hlt)⟩
      obtain ⟨bl, off, hao, hbl, c0, c1, c2, c3⟩ := sv_at (HR.out.1.nx HT.out.2.2) hp
      subst hao
      simp only at c0 c1 c2 c3
      have hlti : (k : Int) < (n : Int) := by omega
      have hnx := lastP_next (p := isCliV 0) hp
      cases hq : (x3 == 0) with
      | true =>
        have HN : Hid (orS (lastP (isCliV 0) (ss.take (k + 1))) = ⟨x0, x1, x2, x3⟩) := by
          have hq' : (isCliV 0) ⟨x0, x1, x2, x3⟩ = true := hq
          show _ = _
          rw [hnx, if_pos hq']; rfl
        clear hp hnx
        go_wp2_with fail
        go_roundw
        case rel =>
          refine ⟨k + 1, by omega, by go_num, ?_, ?_, ?_⟩
          · rw [HN.out]
            exact set_heap _ _ _ _ _ _ (set_heap _ _ _ _ _ _ (set_heap _ _ _ _ _ _ (set_heap _ _ _ _ _ _ HT.out.1)))
          · have hne : w.heap.size ≠ w.heap.size + 1 := by omega
            exact (Below.heap_setCell _ _ _ _ hne).trans ((Below.heap_setCell _ _ _ _ hne).trans ((Below.heap_setCell _ _ _ _ hne).trans ((Below.heap_setCell _ _ _ _ hne).trans HT.out.2.1)))
          · have hg : w.heap.size ≤ w.heap.size + 1 := by omega
            exact (((HT.out.2.2.setCell hg _).setCell hg _).setCell hg _).setCell hg _
        case measure => simp [intOf]; omega
      | false =>
        have HN : Hid (lastP (isCliV 0) (ss.take (k + 1)) = lastP (isCliV 0) (ss.take k)) := by
          have hq' : ¬ (isCliV 0) ⟨x0, x1, x2, x3⟩ = true := fun h => by rw [show (isCliV 0) ⟨x0, x1, x2, x3⟩ = (x3 == 0) from rfl, hq] at h; simp at h
          show _ = _
          rw [hnx, if_neg hq']
        clear hp hnx
        go_wp2_with fail
        go_roundw
        case rel => exact ⟨k + 1, by omega, by go_num, by rw [HN.out]; exact HT.out⟩
        case measure => simp [intOf]; omega
    · have ht : ss.take k = ss := List.take_of_length_le (by rw [HR.out.2]; omega)
      rw [ht] at b0 b1 b2 b3
      obtain ⟨⟨x0, x1, x2, x3⟩, hx⟩ : ∃ x, orS (lastP (isCliV 0) ss) = x := ⟨_, rfl⟩
      rw [hx] at b0 b1 b2 b3
      have HX := hideIt hx
      clear ht hx
      go_wp2_with fail
      refine bodyPost_ret (v := svA ⟨x0, x1, x2, x3⟩) (by simp [results, Tryz.results123, go_sem, y0, y1, y2, y3]) rfl ⟨by rw [HX.out], ?_⟩
      have hg : w.heap.size ≤ w.heap.size := Nat.le_refl _
      exact (((HT.out.2.2.setCell hg _).setCell hg _).setCell hg _).setCell hg _
theorem cLastIdleOf (so : Option Addr) (n2 sc : Nat) (pool : ByteArray) (ss : List Srv) (w : World) (hr : RowAt w (.slice so n2 sc) n2 (flatV ss)) (hn : ss.length = n2) (hq : n2 ≤ 1099511627776) :
    Calls Tryz.prog 121 #[.slice so n2 sc, .string pool] w fun e w' => e = .returned (svA (orS (lastP (fun s => isPoolV pool s && isCliV 0 s) ss))) ∧ Below w.heap.size w w' := by
  have HC := hideIt (cServersOf so n2 sc pool ss (w.alloc (bSx zSrv)) (hr.nx (nx_alloc _ _)) hn hq)
  have hle : (ss.filter (isPoolV pool)).length ≤ n2 := by rw [← hn]; exact List.length_filter_le _ _
  clear hr hn
  go_enter Tryz.func121, Tryz.ntmps121
  go_wp2_with fail
  refine HC.out.mono ?_
  rintro e w1 ⟨vo, vc, rfl, ho, hb⟩
  have HI := hideIt (cLastIdle vo (ss.filter (isPoolV pool)).length vc (ss.filter (isPoolV pool)) w1 (own_row ho) rfl (by unfold maxLen; omega))
  have K : Hid (w1.heap[w.heap.size]? = some (bSx zSrv) ∧ Below w.heap.size w w1 ∧ w.heap.size < w1.heap.size) := ⟨(hb.block _ (by simp)).trans (heap_alloc_at _ _ rfl), nx_trans (nx_alloc _ _) hb, Nat.lt_of_lt_of_le (by simp) hb.size⟩
  clear ho hb HC
  go_wp2_with fail
  refine HI.out.mono ?_
  rintro e w2 ⟨rfl, hb⟩
  obtain ⟨⟨x0, x1, x2, x3⟩, hx⟩ : ∃ x, orS (lastP (isCliV 0) (ss.filter (isPoolV pool))) = x := ⟨_, rfl⟩
  rw [hx]
  have HX : Hid (orS (lastP (fun s => isPoolV pool s && isCliV 0 s) ss) = ⟨x0, x1, x2, x3⟩) := by
    show _ = _
    rw [← hx]
    unfold lastP
    rw [List.filter_filter]
    refine congrArg (fun l => orS (List.getLast? l)) (List.filter_congr fun s _ => ?_)
    exact Bool.and_comm _ _
  obtain ⟨y0, y1, y2, y3, yz⟩ := blk4 hb (g := w.heap.size) K.out.2.2 K.out.1
  have KB : Hid (Below w.heap.size w w2) := nx_trans K.out.2.1 hb
  clear hb hx HI
  go_wp2_with fail
  refine bodyPost_ret (v := svA ⟨x0, x1, x2, x3⟩) (by simp [results, Tryz.results121, go_sem, y0, y1, y2, y3]) rfl ⟨by rw [HX.out], ?_⟩
  have hg : w.heap.size ≤ w.heap.size := Nat.le_refl _
  exact (((KB.out.setCell hg _).setCell hg _).setCell hg _).setCell hg _
set_option maxRecDepth 20000 in
set_option maxHeartbeats 2000000 in
theorem cLastWaiterFor (ao : Option Addr) (n ac : Nat) (pool : ByteArray) (ws : List Wtr) (w : World) (hr : RowAt w (.slice ao n ac) n (flatW ws)) (hn : ws.length = n) (hlen : n ≤ maxLen) :
    Calls Tryz.prog 122 #[.slice ao n ac, .string pool] w fun e w' => e = .returned (.agg #[.int .i64 (orW (lastP (isPoolW pool) ws)).client, .string (orW (lastP (isPoolW pool) ws)).pool]) ∧ Below w.heap.size w w' := by
  unfold maxLen at hlen
  have hb0 : Below w.heap.size w ((w.alloc (bWx zWtr)).alloc (bWx zWtr)) := nx_trans (nx_alloc _ _) (nx_alloc _ _)
  have HR : Hid (RowAt w (.slice ao n ac) n (flatW ws) ∧ ws.length = n) := ⟨hr, hn⟩
  have HZ : Hid (Below w.heap.size w ((w.alloc (bWx zWtr)).alloc (bWx zWtr)) ∧ ((w.alloc (bWx zWtr)).alloc (bWx zWtr)).heap[w.heap.size]? = some (bWx zWtr) ∧ ((w.alloc (bWx zWtr)).alloc (bWx zWtr)).heap[w.heap.size + 1]? = some (bWx zWtr)) := ⟨hb0, (heap_alloc_lt _ _ (by simp)).trans (heap_alloc_at _ _ rfl), heap_alloc_at _ _ (by simp)⟩
  clear hr hn hb0
  go_enter Tryz.func122, Tryz.ntmps122
  go_wp2_with fail
  go_loopw [6] (fun i wr => ∃ k : Nat, k ≤ n ∧ i = .int .i64 k ∧ Hid (wr.heap[w.heap.size + 1]? = some (bWx (orW (lastP (isPoolW pool) (ws.take k)))) ∧ wr.heap[w.heap.size]? = some (bWx zWtr) ∧ Below w.heap.size w wr)) (fun i _ => n - (intOf i).toNat)
  case atStart => exact ⟨0, Nat.zero_le _, rfl, HZ.out.2.2, HZ.out.2.1, HZ.out.1⟩
  case round =>
    obtain ⟨k, hk, rfl, HT⟩ := hrel
    obtain ⟨b0, b1, bz⟩ := blk2 HT.out.1
    obtain ⟨y0, y1, yz⟩ := blk2 HT.out.2.1
    by_cases hlt : k < n
    · obtain ⟨⟨x0, x1⟩, hp⟩ : ∃ p, ws[k]? = some p := ⟨_, List.getElem?_eq_getElem (by rw [HR.out.2]; exact hlt)⟩
      obtain ⟨bl, off, hao, hbl, c0, c1⟩ := wt_at (HR.out.1.nx HT.out.2.2) hp
      subst hao
      simp only at c0 c1
      have hlti : (k : Int) < (n : Int) := by omega
      have hnx := lastP_next (p := isPoolW pool) hp
      cases hq : (x1.toList == pool.toList) with
      | true =>
        have HN : Hid (orW (lastP (isPoolW pool) (ws.take (k + 1))) = ⟨x0, x1⟩) := by
          have hq' : (isPoolW pool) ⟨x0, x1⟩ = true := hq
          show _ = _
          rw [hnx, if_pos hq']; rfl
        clear hp hnx
        go_wp2_with fail
        go_roundw
        case rel =>
          refine ⟨k + 1, by omega, by go_num, ?_, ?_, ?_⟩
          · rw [HN.out]
            exact set_heap _ _ _ _ _ _ (set_heap _ _ _ _ _ _ HT.out.1)
          · have hne : w.heap.size ≠ w.heap.size + 1 := by omega
            exact (Below.heap_setCell _ _ _ _ hne).trans ((Below.heap_setCell _ _ _ _ hne).trans HT.out.2.1)
          · have hg : w.heap.size ≤ w.heap.size + 1 := by omega
            exact (HT.out.2.2.setCell hg _).setCell hg _
        case measure => simp [intOf]; omega
      | false =>
        have HN : Hid (lastP (isPoolW pool) (ws.take (k + 1)) = lastP (isPoolW pool) (ws.take k)) := by
          have hq' : ¬ (isPoolW pool) ⟨x0, x1⟩ = true := fun h => by rw [show (isPoolW pool) ⟨x0, x1⟩ = (x1.toList == pool.toList) from rfl, hq] at h; simp at h
          show _ = _
          rw [hnx, if_neg hq']
        clear hp hnx
        go_wp2_with fail
        go_roundw
        case rel => exact ⟨k + 1, by omega, by go_num, by rw [HN.out]; exact HT.out⟩
        case measure => simp [intOf]; omega
    · have ht : ws.take k = ws := List.take_of_length_le (by rw [HR.out.2]; omega)
      rw [ht] at b0 b1
      obtain ⟨⟨x0, x1⟩, hx⟩ : ∃ x, orW (lastP (isPoolW pool) ws) = x := ⟨_, rfl⟩
      rw [hx] at b0 b1
      have HX := hideIt hx
      clear ht hx
      go_wp2_with fail
      refine bodyPost_ret (v := .agg #[.int .i64 x0, .string x1]) (by simp [results, Tryz.results122, go_sem, y0, y1]) rfl ⟨by rw [HX.out], ?_⟩
      have hg : w.heap.size ≤ w.heap.size := Nat.le_refl _
      exact (HT.out.2.2.setCell hg _).setCell hg _
def othF (pool : ByteArray) (far : Int) (x : Srv) : Bool := isPoolV pool x && !(x.far == far)
theorem cHasOther (x0 : Int) (x1 : ByteArray) (x2 x3 : Int) (pool : ByteArray) (far : Int) (w : World) :
    Calls Tryz.prog 124 #[.agg #[.int .i64 x0, .string x1, .int .i64 x2, .int .i64 x3], .string pool, .int .i64 far] w fun e w' => e = .returned (.bool (othF pool far ⟨x0, x1, x2, x3⟩)) ∧ Below w.heap.size w w' := by
  cases hq : (x1.toList == pool.toList) with
  | true =>
    have HE : Hid (othF pool far ⟨x0, x1, x2, x3⟩ = (x2 != far)) := by
      show _ = _
      unfold othF isPoolV
      simp only [hq, Bool.true_and]
      rfl
    go_enter Tryz.func124, Tryz.ntmps124
    go_wp2_with fail
    go_ret
    exact ⟨by rw [HE.out]; rfl, nx_alloc _ _⟩
  | false =>
    have HE : Hid (othF pool far ⟨x0, x1, x2, x3⟩ = false) := by
      show _ = _
      unfold othF isPoolV
      simp only [hq, Bool.false_and]
    go_enter Tryz.func124, Tryz.ntmps124
    go_wp2_with fail
    go_ret
    exact ⟨by rw [HE.out]; rfl, nx_alloc _ _⟩
set_option maxRecDepth 20000 in
set_option maxHeartbeats 2000000 in
theorem cAnyOther (ao : Option Addr) (n ac : Nat) (pool : ByteArray) (far : Int) (ss : List Srv) (w : World) (hr : RowAt w (.slice ao n ac) n (flatV ss)) (hn : ss.length = n) (hlen : n ≤ maxLen) :
    Calls Tryz.prog 107 #[.slice ao n ac, .string pool, .int .i64 far] w fun e w' => e = .returned (.bool (ss.any (othF pool far))) ∧ Below w.heap.size w w' := by
  unfold maxLen at hlen
  have HR : Hid (RowAt w (.slice ao n ac) n (flatV ss) ∧ ss.length = n) := ⟨hr, hn⟩
  clear hr hn
  go_enter Tryz.func107, Tryz.ntmps107
  go_wp2_with fail
  go_loopw [7] (fun i wr => ∃ k : Nat, k ≤ n ∧ i = .int .i64 k ∧ Hid ((∀ y ∈ ss.take k, othF pool far y = false) ∧ Below w.heap.size w wr)) (fun i _ => n - (intOf i).toNat)
  case atStart => exact ⟨0, Nat.zero_le _, rfl, by intro y hy; simp at hy, Below.refl _ _⟩
  case round =>
    obtain ⟨k, hk, rfl, HT⟩ := hrel
    by_cases hlt : k < n
    · obtain ⟨⟨x0, x1, x2, x3⟩, hp⟩ : ∃ p, ss[k]? = some p := ⟨_, List.getElem?_eq_getElem (by rw [HR.out.2]; exact hlt)⟩
      obtain ⟨bl, off, hao, hbl, c0, c1, c2, c3⟩ := sv_at (HR.out.1.nx HT.out.2) hp
      subst hao
      simp only at c0 c1 c2 c3
      have hlti : (k : Int) < (n : Int) := by omega
      have HP := hideIt hp
      clear hp
      go_wp2_with fail
      refine (cHasOther x0 x1 x2 x3 pool far wr).mono ?_
      rintro e w2 ⟨rfl, hb2⟩
      have HB2 := hideIt (nx_trans HT.out.2 hb2)
      clear hb2 c0 c1 c2 c3
      cases ho : othF pool far ⟨x0, x1, x2, x3⟩ with
      | true =>
        have HH : Hid (ss.any (othF pool far) = true) := List.any_eq_true.2 ⟨_, List.mem_of_getElem? HP.out, ho⟩
        clear ho
        go_wp2_with fail
        go_ret
        exact ⟨by rw [HH.out]; rfl, HB2.out⟩
      | false =>
        have HN : Hid (∀ y ∈ ss.take (k + 1), othF pool far y = false) := take_next HT.out.1 HP.out ho
        clear ho
        go_wp2_with fail
        go_roundw
        case rel => exact ⟨k + 1, by omega, by go_num, HN.out, HB2.out⟩
        case measure => simp [intOf]; omega
    · have HM : Hid (ss.any (othF pool far) = false) := by
        show _ = _
        rw [List.any_eq_false]
        intro y hy
        rw [HT.out.1 y (by rw [List.take_of_length_le (by rw [HR.out.2]; omega)]; exact hy)]
        simp
      go_wp2_with fail
      go_ret
      exact ⟨by rw [HM.out]; rfl, HT.out.2⟩
end Lw
end Go.Proofs.YtohbonfngeblkaaGreat
