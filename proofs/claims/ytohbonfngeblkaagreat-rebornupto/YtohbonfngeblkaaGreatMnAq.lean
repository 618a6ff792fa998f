import Derived.Test.YtohbonfngeblkaaGreatMnAp
import Derived.Laws.MakeOwn
namespace Go.Proofs.YtohbonfngeblkaaGreat
open Go.RowKit
namespace Lw
open Co
def Sn (cs : Array Value) (ks : List Int) : Prop := cs.size = 100 ∧ ∀ c : Nat, c < 100 → cs[c]? = some (.bool (ks.any (fun k => k == (c : Int))))
theorem Sn.put {cs : Array Value} {ks : List Int} (h : Sn cs ks) {c : Nat} (hc : c < 100) : Sn (cs.setIfInBounds c (.bool true)) (ks ++ [(c : Int)]) := by
  refine ⟨by simpa using h.1, fun d hd => ?_⟩
  rw [Array.getElem?_setIfInBounds]
  by_cases e : c = d
  · subst e
    rw [if_pos rfl, if_pos (by rw [h.1]; exact hc)]
    simp
  · rw [if_neg e, h.2 d hd]
    have : ((c : Int) == (d : Int)) = false := beq_eq_false_iff_ne.2 (by omega)
    simp [this]
theorem Sn.made : Sn (madeCells #[.bool false] 100) [] := by
  refine ⟨size_madeCells _ _, fun c hc => ?_⟩
  simp [madeCells, hc, Nat.mod_one]
theorem gInfo_bool : (Tryz.prog.info? 4).map (fun i => (i.zero, i.size, i.bytes)) = some (some (.bool false), 1, 1) := by kernel_rfl
theorem gInfo_parts {P : Program} {t : TypeId} {z : Option Value} {s b : Nat} (h : (P.info? t).map (fun i => (i.zero, i.size, i.bytes)) = some (z, s, b)) : ∃ i, P.info? t = some i ∧ i.zero = z ∧ i.size = s ∧ i.bytes = b := by
  cases hi : P.info? t with
  | none => rw [hi] at h; simp at h
  | some i =>
    rw [hi] at h
    simp at h
    exact ⟨i, rfl, h.1, h.2.1, h.2.2⟩
structure WhoL (ss : List Srv) (ws : List Wtr) : Prop where
  ids : ss.Pairwise (fun a b => a.id < b.id)
  low : ∀ x ∈ ss, 1 ≤ x.id
  wc : ∀ y ∈ ws, 1 ≤ y.client ∧ y.client ≤ 99
  sc : ∀ x ∈ ss, 0 ≤ x.client ∧ x.client ≤ 99
  one : ss.Pairwise (fun a b => a.client = b.client → a.client = 0)
  sep : ∀ x ∈ ss, ∀ y ∈ ws, x.client ≠ y.client
  cli : ws.Pairwise (fun a b => a.client ≠ b.client)
theorem WhoL.of {S : Sta} {op : Int} (h : Fine S op) : WhoL S.srv S.wts := ⟨h.inv.ids, fun x hx => (h.inv.low x hx).1, h.wc, h.sc, h.one, h.sep, h.inv.cli⟩
set_option maxRecDepth 20000 in
set_option maxHeartbeats 8000000 in
theorem gWhole (b : Int) (po : Option Addr) (n1 pc : Nat) (so : Option Addr) (n2 sc : Nat) (wo : Option Addr) (n3 wc : Nat) (qo : Option Addr) (n4 tc : Nat) (bg bk : Bool) (ss : List Srv) (ws : List Wtr) (w : World) (hf : WhoL ss ws) (hr2 : RowAt w (.slice so n2 sc) n2 (flatV ss)) (hn2 : ss.length = n2) (hq2 : n2 ≤ 1099511627776) (hr3 : RowAt w (.slice wo n3 wc) n3 (flatW ws)) (hn3 : ws.length = n3) (hq3 : n3 ≤ 1099511627776) :
    Calls Tryz.prog 14 #[.agg #[.int .i64 b, .slice po n1 pc, .slice so n2 sc, .slice wo n3 wc, .slice qo n4 tc, .bool bg, .bool bk]] w fun e w' => e = .returned (.bool true) ∧ Below w.heap.size w w' := by
  obtain ⟨i0, hi, hz0, hz1, hz2⟩ := gInfo_parts gInfo_bool
  obtain ⟨Z, hZ⟩ : ∃ Z, madeCells #[.bool false] 100 = Z := ⟨_, rfl⟩
  have hSZ : Sn Z [] := by rw [← hZ]; exact Sn.made
  have hmk : ∀ u : World, (Instr.makeSlice 91 (.int .i64 100) (.int .i64 100)).run Tryz.prog u = .ok (.slice (some ⟨u.heap.size, 0, none⟩) 100 100) (u.alloc (.cells Z 4)) := fun u => by
    have h := run_make (P := Tryz.prog) u 91 4 i0 _ Tryz.underlying91 hi hz0 .i64 .i64 100 100 (by omega) (Int.le_refl _) (by rw [hz2]; omega) (by omega)
    rw [← hZ]
    simpa [hz1, Value.cells] using h
  obtain ⟨W, hW⟩ : ∃ W, W = (w.alloc (.cells #[.int .i64 b, .slice po n1 pc, .slice so n2 sc, .slice wo n3 wc, .slice qo n4 tc, .bool bg, .bool bk] 33)).alloc (.cells Z 4) := ⟨_, rfl⟩
  have hbW : Below w.heap.size w W := by rw [hW]; exact nx_trans (nx_alloc _ _) (nx_alloc _ _)
  have HW : Hid (W = (w.alloc (.cells #[.int .i64 b, .slice po n1 pc, .slice so n2 sc, .slice wo n3 wc, .slice qo n4 tc, .bool bg, .bool bk] 33)).alloc (.cells Z 4) ∧ W.heap[w.heap.size]? = some (.cells #[.int .i64 b, .slice po n1 pc, .slice so n2 sc, .slice wo n3 wc, .slice qo n4 tc, .bool bg, .bool bk] 33) ∧ W.heap[w.heap.size + 1]? = some (.cells Z 4) ∧ Below w.heap.size w W ∧ Sn Z []) := by
    refine ⟨hW, ?_, ?_, hbW, hSZ⟩
    · rw [hW]; exact (heap_alloc_lt _ _ (by simp)).trans (heap_alloc_at _ _ rfl)
    · rw [hW]; exact heap_alloc_at _ _ (by simp)
  have HF := hideIt hf
  have HR : Hid (RowAt w (.slice so n2 sc) n2 (flatV ss) ∧ RowAt w (.slice wo n3 wc) n3 (flatW ws)) := ⟨hr2, hr3⟩
  have HN : Hid (ss.length = n2 ∧ ws.length = n3) := ⟨hn2, hn3⟩
  clear hf hr2 hr3 hn2 hn3 hW hbW hSZ hZ hi hz0 hz1 hz2
  go_enter Tryz.func14, Tryz.ntmps14
  go_wp2_with fail
  go_loopw [4] (fun i wr => ∃ (k : Nat) (cs : Array Value), k ≤ n2 ∧ i = .int .i64 k ∧ Hid (wr.heap[w.heap.size + 1]? = some (.cells cs 4) ∧ Sn cs ((ss.take k).map (fun x => x.client)) ∧ wr.heap[w.heap.size]? = some (.cells #[.int .i64 b, .slice po n1 pc, .slice so n2 sc, .slice wo n3 wc, .slice qo n4 tc, .bool bg, .bool bk] 33) ∧ Below w.heap.size w wr)) (fun i _ => n2 - (intOf i).toNat)
  case atStart =>
    refine ⟨0, Z, Nat.zero_le _, rfl, ?_⟩
    show _ ∧ _
    rw [← HW.out.1]
    exact ⟨HW.out.2.2.1, by simpa using HW.out.2.2.2.2, HW.out.2.1, HW.out.2.2.2.1⟩
  case round =>
    obtain ⟨k, cs, hk, rfl, HS⟩ := hrel
    obtain ⟨a0, a1, a2, a3, a4, a5, a6⟩ := gblk7 HS.out.2.2.1
    by_cases hlt : k < n2
    · obtain ⟨⟨x0, x1, x2, x3⟩, hp⟩ : ∃ p, ss[k]? = some p := ⟨_, List.getElem?_eq_getElem (by rw [HN.out.1]; exact hlt)⟩
      obtain ⟨bl, off, hao, hbl, c0, c1, c2, c3⟩ := sv_at (HR.out.1.nx HS.out.2.2.2) hp
      subst hao
      simp only at c0 c1 c2 c3
      have hlti : (k : Int) < (n2 : Int) := by omega
      have hsc := HF.out.sc _ (List.mem_of_getElem? hp)
      have hlo := HF.out.low _ (List.mem_of_getElem? hp)
      simp only at hsc hlo
      obtain ⟨c, hc⟩ : ∃ c : Nat, x3 = (c : Int) := ⟨x3.toNat, by omega⟩
      subst hc
      have hc100 : c < 100 := by omega
      have hc1 : ¬ (c : Int) < 0 := by omega
      have hc2 : ¬ (99 : Int) < (c : Int) := by omega
      have hc3 : (c : Int) < 100 := by omega
      have hx1 : ¬ x0 < 1 := by omega
      obtain ⟨V, hV⟩ : ∃ V, V = wr.alloc (.cells #[.int .i64 x0, .string x1, .int .i64 x2, .int .i64 (c : Int)] 55) := ⟨_, rfl⟩
      have hbV : Below wr.heap.size wr V := by rw [hV]; exact nx_alloc _ _
      have HV : Hid (V = wr.alloc (.cells #[.int .i64 x0, .string x1, .int .i64 x2, .int .i64 (c : Int)] 55) ∧ V.heap[wr.heap.size]? = some (.cells #[.int .i64 x0, .string x1, .int .i64 x2, .int .i64 (c : Int)] 55) ∧ Below w.heap.size w V ∧ V.heap[w.heap.size + 1]? = some (.cells cs 4) ∧ V.heap[w.heap.size]? = some (.cells #[.int .i64 b, .slice po n1 pc, .slice (some ⟨bl, off, none⟩) n2 sc, .slice wo n3 wc, .slice qo n4 tc, .bool bg, .bool bk] 33)) := ⟨hV, by rw [hV]; exact heap_alloc_at _ _ rfl, nx_trans HS.out.2.2.2 hbV, gblk HS.out.1 hbV, gblk HS.out.2.2.1 hbV⟩
      have HSN := hideIt HS.out.2.1
      have HP := hideIt hp
      clear hp hV hbV
      go_upto_region 6 with fail
      rw [← HV.out.1]
      clear a0 a1 a2 a3 a4 a5 a6 c0 c1 c2 c3
      obtain ⟨a0, a1, a2, a3, a4, a5, a6⟩ := gblk7 HV.out.2.2.2.2
      obtain ⟨s0, s1, s2, s3⟩ := gblk4 HV.out.2.1
      have hsn : V.cell? ⟨w.heap.size + 1, c, none⟩ = some (.bool (((ss.take k).map (fun x => x.client)).any (fun q => q == (c : Int)))) := by
        simp [World.cell?, HV.out.2.2.2.1, HSN.out.2 c hc100]
      have hno : 0 < c → (((ss.take k).map (fun x => x.client)).any (fun q => q == (c : Int))) = false := fun h0 => by
        rw [List.any_eq_false]
        intro q hq
        obtain ⟨y, hy, rfl⟩ := List.mem_map.1 hq
        obtain ⟨j, hj, rfl⟩ := List.mem_take_iff_getElem.1 hy
        obtain ⟨hkk, e⟩ := List.getElem?_eq_some_iff.1 HP.out
        have := List.pairwise_iff_getElem.1 HF.out.one j k (by omega) hkk (by omega)
        rw [e] at this
        intro hb
        have h1 := eq_of_beq hb
        have h2 := this h1
        rw [h1] at h2
        omega
      go_cut [61] (fun v wx => v = .bool false ∧ ∃ n, V.drewN n = wx)
      case first =>
        by_cases hk0 : k = 0
        · have hki : decide ((0 : Int) < (k : Int)) = false := decide_eq_false (by omega)
          have hkn : decide (0 < k) = false := decide_eq_false (by omega)
          clear hk0
          by_cases hc0 : c = 0
          · have hci : decide ((0 : Int) < (c : Int)) = false := decide_eq_false (by omega)
            have hcn : decide (0 < c) = false := decide_eq_false (by omega)
            clear hno hsn hc0
            go_quiet (fail)
            go_wp2_with fail
            go_meet
            exact ⟨rfl, _, rfl⟩
          · rw [hno (by omega)] at hsn
            have hci : decide ((0 : Int) < (c : Int)) = true := decide_eq_true (by omega)
            have hcn : decide (0 < c) = true := decide_eq_true (by omega)
            clear hno hc0
            go_quiet (fail)
            go_wp2_with fail
            go_meet
            exact ⟨rfl, _, rfl⟩
        · obtain ⟨m, hm⟩ : ∃ m, k = m + 1 := ⟨k - 1, by omega⟩
          have hki : decide ((0 : Int) < (k : Int)) = true := decide_eq_true (by omega)
          have hkn : decide (0 < k) = true := decide_eq_true (by omega)
          obtain ⟨⟨y0, y1, y2, y3⟩, hy⟩ : ∃ p, ss[m]? = some p := ⟨_, List.getElem?_eq_getElem (by rw [HN.out.1]; omega)⟩
          obtain ⟨bl', off', hao', hbl', d0, d1, d2, d3⟩ := sv_at (HR.out.1.nx HV.out.2.2.1) hy
          obtain ⟨rfl, rfl⟩ : bl = bl' ∧ off = off' := by simpa using hao'
          simp only at d0 d1 d2 d3
          have hid : ¬ x0 ≤ y0 := by
            obtain ⟨h1, e1⟩ := List.getElem?_eq_some_iff.1 hy
            obtain ⟨h2, e2⟩ := List.getElem?_eq_some_iff.1 HP.out
            have := List.pairwise_iff_getElem.1 HF.out.ids m k h1 h2 (by omega)
            rw [e1, e2] at this
            simp only at this
            omega
          have hmw : IntKind.i64.wrap ((k : Int) - 1) = (m : Int) := by rw [IntWalk.i64_in _ (by omega)]; omega
          have hmn : (m : Int) < (n2 : Int) := by omega
          clear hy hao' hm hk0
          by_cases hc0 : c = 0
          · have hci : decide ((0 : Int) < (c : Int)) = false := decide_eq_false (by omega)
            have hcn : decide (0 < c) = false := decide_eq_false (by omega)
            clear hno hsn hc0
            go_quiet (fail)
            go_wp2_with fail
            go_meet
            exact ⟨rfl, _, rfl⟩
          · rw [hno (by omega)] at hsn
            have hci : decide ((0 : Int) < (c : Int)) = true := decide_eq_true (by omega)
            have hcn : decide (0 < c) = true := decide_eq_true (by omega)
            clear hno hc0
            go_quiet (fail)
            go_wp2_with fail
            go_meet
            exact ⟨rfl, _, rfl⟩
      case rest =>
        obtain ⟨rfl, nq, rfl⟩ := hcut
        have HN2 : Hid (((V.drewN nq).setCell ⟨w.heap.size + 1, c, none⟩ (.bool true)).heap[w.heap.size + 1]? = some (.cells (cs.setIfInBounds c (.bool true)) 4) ∧ Sn (cs.setIfInBounds c (.bool true)) ((ss.take (k + 1)).map (fun x => x.client)) ∧ ((V.drewN nq).setCell ⟨w.heap.size + 1, c, none⟩ (.bool true)).heap[w.heap.size]? = some (.cells #[.int .i64 b, .slice po n1 pc, .slice (some ⟨bl, off, none⟩) n2 sc, .slice wo n3 wc, .slice qo n4 tc, .bool bg, .bool bk] 33) ∧ Below w.heap.size w ((V.drewN nq).setCell ⟨w.heap.size + 1, c, none⟩ (.bool true))) := by
          refine ⟨set_heap (V.drewN nq) _ _ _ _ _ HV.out.2.2.2.1, ?_, (Below.heap_setCell _ _ _ _ (by show w.heap.size ≠ w.heap.size + 1; omega)).trans HV.out.2.2.2.2, (below_drewN HV.out.2.2.1 _).setCell (by show w.heap.size ≤ w.heap.size + 1; omega) _⟩
          obtain ⟨hkk, e⟩ := List.getElem?_eq_some_iff.1 HP.out
          rw [List.take_succ_eq_append_getElem hkk, List.map_append, e]
          exact HSN.out.put hc100
        have hfz : ∀ q, (V.drewN nq).frozen? ⟨w.heap.size + 1, q, none⟩ = false := fun q => by
          show V.frozen? _ = false
          simp [World.frozen?, HV.out.2.2.2.1]
        have hsn2 : (V.drewN nq).cell? ⟨w.heap.size + 1, c, none⟩ = some (.bool (((ss.take k).map (fun x => x.client)).any (fun q => q == (c : Int)))) := hsn
        have s3' : (V.drewN nq).cell? ⟨wr.heap.size, 3, none⟩ = some (.int .i64 (c : Int)) := s3
        clear a0 a1 a2 a3 a4 a5 a6 s0 s1 s2 s3 hsn hno
        go_wp2_with fail
        go_roundw
        case rel => exact ⟨k + 1, _, by omega, by go_num, HN2.out⟩
        case measure => simp [intOf]; omega
    · have hlti : ¬ (k : Int) < (n2 : Int) := by omega
      have HS2 : Hid (wr.heap[w.heap.size + 1]? = some (.cells cs 4) ∧ Sn cs (ss.map (fun x => x.client)) ∧ wr.heap[w.heap.size]? = some (.cells #[.int .i64 b, .slice po n1 pc, .slice so n2 sc, .slice wo n3 wc, .slice qo n4 tc, .bool bg, .bool bk] 33) ∧ Below w.heap.size w wr) := by
        have h := HS.out
        rw [List.take_of_length_le (by rw [HN.out.1]; omega)] at h
        exact h
      go_wp2_with fail
      clear a0 a1 a2 a3 a4 a5 a6
      go_loopw [6] (fun i wq => ∃ (q : Nat) (cs : Array Value), q ≤ n3 ∧ i = .int .i64 q ∧ Hid (wq.heap[w.heap.size + 1]? = some (.cells cs 4) ∧ Sn cs (ss.map (fun x => x.client) ++ (ws.take q).map (fun x => x.client)) ∧ wq.heap[w.heap.size]? = some (.cells #[.int .i64 b, .slice po n1 pc, .slice so n2 sc, .slice wo n3 wc, .slice qo n4 tc, .bool bg, .bool bk] 33) ∧ Below w.heap.size w wq)) (fun i _ => n3 - (intOf i).toNat)
      case atStart => exact ⟨0, cs, Nat.zero_le _, rfl, HS2.out.1, by simpa using HS2.out.2.1, HS2.out.2.2⟩
      case round =>
        clear HS HS2 hlti hlt hk cs
        obtain ⟨q, cs, hq, rfl, HS⟩ := hrel
        obtain ⟨a0, a1, a2, a3, a4, a5, a6⟩ := gblk7 HS.out.2.2.1
        by_cases hqt : q < n3
        · obtain ⟨⟨x0, x1⟩, hp⟩ : ∃ p, ws[q]? = some p := ⟨_, List.getElem?_eq_getElem (by rw [HN.out.2]; exact hqt)⟩
          obtain ⟨bl, off, hao, hbl, c0, c1⟩ := wt_at (HR.out.2.nx HS.out.2.2.2) hp
          subst hao
          simp only at c0 c1
          have hqi : (q : Int) < (n3 : Int) := by omega
          have hwc := HF.out.wc _ (List.mem_of_getElem? hp)
          simp only at hwc
          obtain ⟨c, hc⟩ : ∃ c : Nat, x0 = (c : Int) := ⟨x0.toNat, by omega⟩
          subst hc
          have hc100 : c < 100 := by omega
          have hc1 : decide ((c : Int) < 1) = false := decide_eq_false (by omega)
          have hc1' : decide (c < 1) = false := decide_eq_false (by omega)
          have hc0 : (c == 0) = false := beq_eq_false_iff_ne.2 (by omega)
          have hcz : ¬ c = 0 := by omega
          have hc2 : ¬ (99 : Int) < (c : Int) := by omega
          have hc3 : (c : Int) < 100 := by omega
          have hno : ((ss.map (fun x => x.client) ++ (ws.take q).map (fun x => x.client)).any (fun z => z == (c : Int))) = false := by
            rw [List.any_eq_false]
            intro z hz hb
            have h1 := eq_of_beq hb
            rcases List.mem_append.1 hz with hz | hz
            · obtain ⟨y, hy, rfl⟩ := List.mem_map.1 hz
              exact HF.out.sep y hy _ (List.mem_of_getElem? hp) h1
            · obtain ⟨y, hy, rfl⟩ := List.mem_map.1 hz
              obtain ⟨j, hj, rfl⟩ := List.mem_take_iff_getElem.1 hy
              obtain ⟨hkk, e⟩ := List.getElem?_eq_some_iff.1 hp
              have := List.pairwise_iff_getElem.1 HF.out.cli j q (by omega) hkk (by omega)
              rw [e] at this
              exact this h1
          have hsn : wr.cell? ⟨w.heap.size + 1, c, none⟩ = some (.bool false) := by
            have := HS.out.2.1.2 c hc100
            rw [hno] at this
            simp [World.cell?, HS.out.1, this]
          have hfz : ∀ z, wr.frozen? ⟨w.heap.size + 1, z, none⟩ = false := fun z => by simp [World.frozen?, HS.out.1]
          have HN2 : Hid ((wr.setCell ⟨w.heap.size + 1, c, none⟩ (.bool true)).heap[w.heap.size + 1]? = some (.cells (cs.setIfInBounds c (.bool true)) 4) ∧ Sn (cs.setIfInBounds c (.bool true)) (ss.map (fun x => x.client) ++ (ws.take (q + 1)).map (fun x => x.client)) ∧ (wr.setCell ⟨w.heap.size + 1, c, none⟩ (.bool true)).heap[w.heap.size]? = some (.cells #[.int .i64 b, .slice po n1 pc, .slice so n2 sc, .slice (some ⟨bl, off, none⟩) n3 wc, .slice qo n4 tc, .bool bg, .bool bk] 33) ∧ Below w.heap.size w (wr.setCell ⟨w.heap.size + 1, c, none⟩ (.bool true))) := by
            refine ⟨set_heap wr _ _ _ _ _ HS.out.1, ?_, (Below.heap_setCell _ _ _ _ (by show w.heap.size ≠ w.heap.size + 1; omega)).trans HS.out.2.2.1, HS.out.2.2.2.setCell (by show w.heap.size ≤ w.heap.size + 1; omega) _⟩
            obtain ⟨hkk, e⟩ := List.getElem?_eq_some_iff.1 hp
            rw [List.take_succ_eq_append_getElem hkk, List.map_append, e, ← List.append_assoc]
            exact HS.out.2.1.put hc100
          clear hp hno hwc
          go_wp2_with fail
          go_roundw
          case rel => exact ⟨q + 1, _, by omega, by go_num, HN2.out⟩
          case measure => simp [intOf]; omega
        · have hqi : ¬ (q : Int) < (n3 : Int) := by omega
          go_wp2_with fail
          go_ret
          exact ⟨rfl, HS.out.2.2.2⟩
end Lw
end Go.Proofs.YtohbonfngeblkaaGreat
namespace Go.Proofs.YtohbonfngeblkaaGreat
open Go.RowKit
namespace Lw
open Co
def enB (kd A er c was : Int) : Bool := (er == 0) && (((kd == 2) && (A == c)) || ((kd == 4) && (A == was)))
def asB (kd A er c : Int) : Bool := ((er == 0) && (kd == 1)) && (A == c)
structure LastP (was is wv vv n : Int) (en as' : Bool) : Prop where
  l1 : 0 < was → (is == was) = !en
  l2 : 0 < was → 0 < is → (is == was) = true
  l3 : was = 0 → 0 < is → wv < 0 → as' = true
  l4 : 0 ≤ vv → wv < 0 → as' = true
  l5 : as' = true → (is == n) = true ∧ (n == 0) = decide (0 ≤ vv)
set_option maxRecDepth 20000 in
set_option maxHeartbeats 8000000 in
theorem gLasting (b : Int) (po : Option Addr) (n1 pc : Nat) (so : Option Addr) (n2 sc : Nat) (wo : Option Addr) (n3 wc : Nat) (qo : Option Addr) (n4 tc : Nat) (bg bk : Bool) (B : Int) (PO : Option Addr) (N1 PC : Nat) (SO : Option Addr) (N2 SC : Nat) (WO : Option Addr) (N3 WC : Nat) (QO : Option Addr) (N4 TC : Nat) (BG BK : Bool) (kd A P n er : Int) (ss st : List Srv) (ws wt : List Wtr) (w : World) (hf : ∀ c : Int, 1 ≤ c → c ≤ 99 → LastP (holdL c ss) (holdL c st) (optI (ws.findIdx? (isCliW c))) (optI (wt.findIdx? (isCliW c))) n (enB kd A er c (holdL c ss)) (asB kd A er c))
    (hr2 : RowAt w (.slice so n2 sc) n2 (flatV ss)) (hn2 : ss.length = n2) (hq2 : n2 ≤ 1099511627776) (hr3 : RowAt w (.slice wo n3 wc) n3 (flatW ws)) (hn3 : ws.length = n3) (hq3 : n3 ≤ 1099511627776)
    (hR2 : RowAt w (.slice SO N2 SC) N2 (flatV st)) (hN2 : st.length = N2) (hQ2 : N2 ≤ 1099511627776) (hR3 : RowAt w (.slice WO N3 WC) N3 (flatW wt)) (hN3 : wt.length = N3) (hQ3 : N3 ≤ 1099511627776) :
    Calls Tryz.prog 15 #[.agg #[.int .i64 b, .slice po n1 pc, .slice so n2 sc, .slice wo n3 wc, .slice qo n4 tc, .bool bg, .bool bk], .agg #[.int .i64 B, .slice PO N1 PC, .slice SO N2 SC, .slice WO N3 WC, .slice QO N4 TC, .bool BG, .bool BK], .agg #[.int .i64 kd, .int .i64 A, .int .i64 P], .int .i64 n, .int .i64 er] w fun e w' => e = .returned (.bool true) ∧ Below w.heap.size w w' := by
  obtain ⟨W, hW⟩ : ∃ W, W = ((w.alloc (.cells #[.int .i64 b, .slice po n1 pc, .slice so n2 sc, .slice wo n3 wc, .slice qo n4 tc, .bool bg, .bool bk] 33)).alloc (.cells #[.int .i64 B, .slice PO N1 PC, .slice SO N2 SC, .slice WO N3 WC, .slice QO N4 TC, .bool BG, .bool BK] 33)).alloc (.cells #[.int .i64 kd, .int .i64 A, .int .i64 P] 39) := ⟨_, rfl⟩
  have hbW : Below w.heap.size w W := by rw [hW]; exact nx_trans (nx_trans (nx_alloc _ _) (nx_alloc _ _)) (nx_alloc _ _)
  have HW : Hid (W = ((w.alloc (.cells #[.int .i64 b, .slice po n1 pc, .slice so n2 sc, .slice wo n3 wc, .slice qo n4 tc, .bool bg, .bool bk] 33)).alloc (.cells #[.int .i64 B, .slice PO N1 PC, .slice SO N2 SC, .slice WO N3 WC, .slice QO N4 TC, .bool BG, .bool BK] 33)).alloc (.cells #[.int .i64 kd, .int .i64 A, .int .i64 P] 39) ∧ W.heap[w.heap.size]? = some (.cells #[.int .i64 b, .slice po n1 pc, .slice so n2 sc, .slice wo n3 wc, .slice qo n4 tc, .bool bg, .bool bk] 33) ∧ W.heap[w.heap.size + 1]? = some (.cells #[.int .i64 B, .slice PO N1 PC, .slice SO N2 SC, .slice WO N3 WC, .slice QO N4 TC, .bool BG, .bool BK] 33) ∧ W.heap[w.heap.size + 2]? = some (.cells #[.int .i64 kd, .int .i64 A, .int .i64 P] 39) ∧ Below w.heap.size w W) := by
    refine ⟨hW, ?_, ?_, ?_, hbW⟩
    · rw [hW]; exact (heap_alloc_lt _ _ (by simp; omega)).trans ((heap_alloc_lt _ _ (by simp)).trans (heap_alloc_at _ _ rfl))
    · rw [hW]; exact (heap_alloc_lt _ _ (by simp)).trans (heap_alloc_at _ _ (by simp))
    · rw [hW]; exact heap_alloc_at _ _ (by simp)
  have HF := hideIt hf
  have H1 := hideIt (fun u c (hu : Below W.heap.size W u) => gHolds b po n1 pc so n2 sc wo n3 wc qo n4 tc bg bk c ss u ((hr2.nx hbW).nx hu) hn2 (by unfold maxLen; omega))
  have H2 := hideIt (fun u c (hu : Below W.heap.size W u) => gHolds B PO N1 PC SO N2 SC WO N3 WC QO N4 TC BG BK c st u ((hR2.nx hbW).nx hu) hN2 (by unfold maxLen; omega))
  have H3 := hideIt (fun u c (hu : Below W.heap.size W u) => gWaits b po n1 pc so n2 sc wo n3 wc qo n4 tc bg bk c ws u ((hr3.nx hbW).nx hu) hn3 (by unfold maxLen; omega))
  have H4 := hideIt (fun u c (hu : Below W.heap.size W u) => gWaits B PO N1 PC SO N2 SC WO N3 WC QO N4 TC BG BK c wt u ((hR3.nx hbW).nx hu) hN3 (by unfold maxLen; omega))
  clear hf hr2 hn2 hq2 hr3 hn3 hq3 hR2 hN2 hQ2 hR3 hN3 hQ3 hW hbW
  go_enter Tryz.func15, Tryz.ntmps15
  go_wp2_with fail
  go_loopw [11] (fun i wr => ∃ c : Nat, 1 ≤ c ∧ c ≤ 100 ∧ i = .int .i64 c ∧ Hid (Below W.heap.size W wr)) (fun i _ => 100 - (intOf i).toNat)
  case atStart =>
    refine ⟨1, Nat.le_refl _, by omega, rfl, ?_⟩
    show Below _ _ _
    rw [← HW.out.1]
    exact Below.refl _ _
  case round =>
    obtain ⟨c, hc1, hc2, rfl, HB⟩ := hrel
    obtain ⟨a0, a1, a2, a3, a4, a5, a6⟩ := gblk7 (gblk HW.out.2.1 HB.out)
    by_cases hlt : c ≤ 99
    · have hci : (c : Int) ≤ 99 := by omega
      have HL := hideIt (HF.out (c : Int) (by omega) hci)
      go_wp2_with fail
      refine (H1.out wr c HB.out).mono ?_
      rintro e w1 ⟨rfl, hb1⟩
      have HB1 : Hid (Below W.heap.size W w1) := nx_trans HB.out hb1
      clear hb1 a0 a1 a2 a3 a4 a5 a6
      obtain ⟨t0, t1, t2, t3, t4, t5, t6⟩ := gblk7 (gblk HW.out.2.2.1 HB1.out)
      go_wp2_with fail
      refine (H2.out w1 c HB1.out).mono ?_
      rintro e w2 ⟨rfl, hb2⟩
      have HB2 : Hid (Below W.heap.size W w2) := nx_trans HB1.out hb2
      obtain ⟨was, hwas⟩ : ∃ q, holdL (c : Int) ss = q := ⟨_, rfl⟩
      obtain ⟨is, his⟩ : ∃ q, holdL (c : Int) st = q := ⟨_, rfl⟩
      rw [hwas, his] at HL
      rw [hwas, his]
      clear hb2 t0 t1 t2 t3 t4 t5 t6 hwas his
      obtain ⟨o0, o1, o2⟩ := gblk3 (gblk HW.out.2.2.2.1 HB2.out)
      obtain ⟨en, hen⟩ : ∃ q, enB kd A er c was = q := ⟨_, rfl⟩
      obtain ⟨ak, hak⟩ : ∃ q, asB kd A er c = q := ⟨_, rfl⟩
      rw [hen, hak] at HL
      have HEN := hideIt hen
      have HAK := hideIt hak
      clear hen hak
      go_upto_region 6 with fail
      go_cut [14] (fun v wx => v = .bool en ∧ w2 = wx)
      case first =>
        cases e1 : (er == 0) with
        | false =>
          have he : en = false := by rw [← HEN.out]; simp [enB, e1]
          subst he
          go_wp2_with fail
          go_meet
          exact ⟨rfl, rfl⟩
        | true =>
          cases e2 : (kd == 2) with
          | true =>
            have e4 : (kd == 4) = false := beq_eq_false_iff_ne.2 (by have := eq_of_beq e2; omega)
            have he : en = (A == (c : Int)) := by rw [← HEN.out]; simp only [enB, e1, e2, e4, Bool.true_and, Bool.false_and, Bool.or_false]
            subst he
            cases e3 : (A == (c : Int)) with
            | true =>
              go_wp2_with fail
              go_meet
              exact ⟨by simp [e3], rfl⟩
            | false =>
              go_wp2_with fail
              go_meet
              exact ⟨by simp [e3], rfl⟩
          | false =>
            cases e4 : (kd == 4) with
            | true =>
              have he : en = (A == was) := by rw [← HEN.out]; simp only [enB, e1, e2, e4, Bool.true_and, Bool.false_and, Bool.false_or]
              subst he
              go_wp2_with fail
              go_meet
              exact ⟨rfl, rfl⟩
            | false =>
              have he : en = false := by rw [← HEN.out]; simp [enB, e1, e2, e4]
              subst he
              go_wp2_with fail
              go_meet
              exact ⟨rfl, rfl⟩
      case rest =>
        obtain ⟨rfl, rfl⟩ := hcut
        go_upto_region 7 with fail
        go_cut [15] (fun v wx => v = .bool ak ∧ w2 = wx)
        case first =>
          cases e1 : (er == 0) with
          | false =>
            have he : ak = false := by rw [← HAK.out]; simp [asB, e1]
            subst he
            go_wp2_with fail
            go_meet
            exact ⟨rfl, rfl⟩
          | true =>
            cases e2 : (kd == 1) with
            | true =>
              have he : ak = (A == (c : Int)) := by rw [← HAK.out]; simp only [asB, e1, e2, Bool.true_and]
              subst he
              go_wp2_with fail
              go_meet
              exact ⟨rfl, rfl⟩
            | false =>
              have he : ak = false := by rw [← HAK.out]; simp [asB, e1, e2]
              subst he
              go_wp2_with fail
              go_meet
              exact ⟨rfl, rfl⟩
        case rest =>
          obtain ⟨rfl, rfl⟩ := hcut
          clear o0 o1 o2
          obtain ⟨a0, a1, a2, a3, a4, a5, a6⟩ := gblk7 (gblk HW.out.2.1 HB2.out)
          go_wp2_with fail
          refine (H3.out w2 c HB2.out).mono ?_
          rintro e w3 ⟨rfl, hb3⟩
          have HB3 : Hid (Below W.heap.size W w3) := nx_trans HB2.out hb3
          clear hb3 a0 a1 a2 a3 a4 a5 a6
          obtain ⟨t0, t1, t2, t3, t4, t5, t6⟩ := gblk7 (gblk HW.out.2.2.1 HB3.out)
          go_wp2_with fail
          refine (H4.out w3 c HB3.out).mono ?_
          rintro e w4 ⟨rfl, hb4⟩
          have HB4 : Hid (Below W.heap.size W w4) := nx_trans HB3.out hb4
          obtain ⟨wv, hwv⟩ : ∃ q, optI (ws.findIdx? (isCliW (c : Int))) = q := ⟨_, rfl⟩
          obtain ⟨vv, hvv⟩ : ∃ q, optI (wt.findIdx? (isCliW (c : Int))) = q := ⟨_, rfl⟩
          rw [hwv, hvv] at HL
          rw [hwv, hvv]
          clear hb4 t0 t1 t2 t3 t4 t5 t6 hwv hvv
          go_upto_region 10 with fail
          go_cut [71] (fun v wx => v = .bool false ∧ w4 = wx)
          case first =>
            cases hw0 : decide (0 < was) with
            | false =>
              go_wp2_with fail
              go_meet
              exact ⟨rfl, rfl⟩
            | true =>
              have h1 := HL.out.l1 (of_decide_eq_true hw0)
              cases en with
              | true =>
                simp only [Bool.not_true] at h1
                go_wp2_with fail
                go_meet
                exact ⟨rfl, rfl⟩
              | false =>
                simp only [Bool.not_false] at h1
                go_wp2_with fail
                go_meet
                exact ⟨rfl, rfl⟩
          case rest =>
            obtain ⟨rfl, rfl⟩ := hcut
            go_upto_region 12 with fail
            go_cut [81] (fun v wx => v = .bool false ∧ w4 = wx)
            case first =>
              cases hw0 : decide (0 < was) with
              | false =>
                go_wp2_with fail
                go_meet
                exact ⟨rfl, rfl⟩
              | true =>
                cases hi0 : decide (0 < is) with
                | false =>
                  go_wp2_with fail
                  go_meet
                  exact ⟨rfl, rfl⟩
                | true =>
                  have h1 := HL.out.l2 (of_decide_eq_true hw0) (of_decide_eq_true hi0)
                  have h2 : (is != was) = false := by unfold bne; rw [h1]; rfl
                  clear h1
                  go_wp2_with fail
                  go_meet
                  exact ⟨rfl, rfl⟩
            case rest =>
              obtain ⟨rfl, rfl⟩ := hcut
              go_upto_region 14 with fail
              go_cut [93] (fun v wx => v = .bool false ∧ w4 = wx)
              case first =>
                cases hw0 : (was == 0) with
                | false =>
                  go_wp2_with fail
                  go_meet
                  exact ⟨rfl, rfl⟩
                | true =>
                  cases hi0 : decide (0 < is) with
                  | false =>
                    go_wp2_with fail
                    go_meet
                    exact ⟨rfl, rfl⟩
                  | true =>
                    cases hv0 : decide (wv < 0) with
                    | false =>
                      go_wp2_with fail
                      go_meet
                      exact ⟨rfl, rfl⟩
                    | true =>
                      have h1 := HL.out.l3 (eq_of_beq hw0) (of_decide_eq_true hi0) (of_decide_eq_true hv0)
                      subst h1
                      go_wp2_with fail
                      go_meet
                      exact ⟨rfl, rfl⟩
              case rest =>
                obtain ⟨rfl, rfl⟩ := hcut
                go_upto_region 16 with fail
                go_cut [108] (fun v wx => v = .bool false ∧ w4 = wx)
                case first =>
                  cases hw0 : decide (0 ≤ vv) with
                  | false =>
                    go_wp2_with fail
                    go_meet
                    exact ⟨rfl, rfl⟩
                  | true =>
                    cases hv0 : decide (wv < 0) with
                    | false =>
                      go_wp2_with fail
                      go_meet
                      exact ⟨rfl, rfl⟩
                    | true =>
                      have h1 := HL.out.l4 (of_decide_eq_true hw0) (of_decide_eq_true hv0)
                      subst h1
                      go_wp2_with fail
                      go_meet
                      exact ⟨rfl, rfl⟩
                case rest =>
                  obtain ⟨rfl, rfl⟩ := hcut
                  go_upto_region 18 with fail
                  go_cut [119] (fun v wx => v = .bool false ∧ w4 = wx)
                  case first =>
                    cases ak with
                    | false =>
                      go_wp2_with fail
                      go_meet
                      exact ⟨rfl, rfl⟩
                    | true =>
                      obtain ⟨h1, h2⟩ := HL.out.l5 rfl
                      have h3 : (is != n) = false := by unfold bne; rw [h1]; rfl
                      clear h1
                      cases hv0 : decide (0 ≤ vv) with
                      | true =>
                        rw [hv0] at h2
                        go_wp2_with fail
                        go_meet
                        exact ⟨rfl, rfl⟩
                      | false =>
                        rw [hv0] at h2
                        go_wp2_with fail
                        go_meet
                        exact ⟨rfl, rfl⟩
                  case rest =>
                    obtain ⟨rfl, rfl⟩ := hcut
                    go_wp2_with fail
                    go_roundw
                    case rel => exact ⟨c + 1, by omega, by omega, by go_num, HB4.out⟩
                    case measure => simp [intOf]; omega
    · have hci : ¬ (c : Int) ≤ 99 := by omega
      go_wp2_with fail
      go_ret
      exact ⟨rfl, nx_trans HW.out.2.2.2.2 HB.out⟩
end Lw
end Go.Proofs.YtohbonfngeblkaaGreat
