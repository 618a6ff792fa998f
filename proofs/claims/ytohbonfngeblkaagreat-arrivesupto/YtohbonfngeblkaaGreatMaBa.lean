import Derived.Test.YtohbonfngeblkaaGreatMaAz
import Derived.Test.YtohbonfngeblkaaGreatMaAf
namespace Go.Proofs.YtohbonfngeblkaaGreat
open Go.RowKit
namespace Lw
open Co
theorem goal_row {w : World} {gg gp : Nat} {S : Sta} {X : Aux} {Fp : Nat → Prop} {A B : Int × List Pl} {ao : Option Addr} {ac : Nat} {bo : Option Addr} {bc : Nat} (h : GameAt w gg gp S X Fp A B ao ac bo bc) {T : Int × List Pl} {vt : Option Addr} {tc : Nat} (hg : Goal T vt tc A B ao ac bo bc) : RowAt w (.slice vt T.2.length tc) T.2.length (flatP T.2) := by
  rcases hg with ⟨rfl, rfl, rfl⟩ | ⟨rfl, rfl, rfl⟩
  · exact h.a
  · exact h.b
theorem arr_fresh {W w : World} {gg gp : Nat} {S : Sta} {X : Aux} {Fp : Nat → Prop} {A B : Int × List Pl} {ao : Option Addr} {ac : Nat} {bo : Option Addr} {bc : Nat} (h : GameAt w gg gp S X Fp A B ao ac bo bc) (hA : Okt A.1 A.2) (hf : Fresh S X A) (hF : ∀ y, Fp y → W.heap.size ≤ y) (hb : Below W.heap.size W w) : ArrI W w gg gp S X Fp A B ao ac bo bc 0 ∧ Pln S X A ∧ S.plan = [] := by
  have hr := run1_fresh hA hf
  obtain ⟨g, hg⟩ := hr.pln
  have e := (hg.none hf.rest.1).2.2
  rw [hf.bud, hf.pools] at e
  subst e
  exact ⟨⟨h, hr, hf.pot, hF, hb⟩, hg, hf.rest.1⟩
set_option maxRecDepth 20000 in
set_option maxHeartbeats 8000000 in
theorem arrives_any (b1 : Int) (xs : List Pl) (xo : Option Addr) (nx xc : Nat) (b2 : Int) (ys : List Pl) (yo : Option Addr) (ny yc : Nat) (os : List Opk) (co : Option Addr) (n cc : Nat) (ot : List Opk) (eo : Option Addr) (m ec : Nat) (w : World)
    (hr1 : RowAt w (.slice xo nx xc) nx (flatP xs)) (hn1 : xs.length = nx) (hm1 : nx ≤ maxLen) (hb1 : I64 b1) (hx1 : ∀ x ∈ xs, I64 x.sz ∧ I64 x.wt ∧ I64 x.fr)
    (hr2 : RowAt w (.slice yo ny yc) ny (flatP ys)) (hn2 : ys.length = ny) (hm2 : ny ≤ maxLen) (hb2 : I64 b2) (hx2 : ∀ x ∈ ys, I64 x.sz ∧ I64 x.wt ∧ I64 x.fr)
    (hr : RowAt w (.slice co n cc) n (flatK os)) (hn : os.length = n) (hI : ∀ x ∈ os, I64 x.b) (hq : n ≤ 268435456)
    (hr3 : RowAt w (.slice eo m ec) m (flatK ot)) (hn3 : ot.length = m) (hI3 : ∀ x ∈ ot, I64 x.b) (hq3 : m ≤ 268435456) :
    Calls Tryz.prog 6 #[.agg #[.int .i64 b1, .slice xo nx xc], .agg #[.int .i64 b2, .slice yo ny yc], .slice co n cc, .slice eo m ec] w fun e w' => e = .returned (.bool true) ∧ Below w.heap.size w w' := by
  obtain ⟨W, hW⟩ : ∃ W, W = (w.alloc (bTab b1 (.slice xo nx xc))).alloc (bTab b2 (.slice yo ny yc)) := ⟨_, rfl⟩
  have hbW : Below w.heap.size w W := by rw [hW]; exact nx_trans (nx_alloc _ _) (nx_alloc _ _)
  have HW : Hid (W = (w.alloc (bTab b1 (.slice xo nx xc))).alloc (bTab b2 (.slice yo ny yc)) ∧ W.heap[w.heap.size]? = some (bTab b1 (.slice xo nx xc)) ∧ W.heap[w.heap.size + 1]? = some (bTab b2 (.slice yo ny yc)) ∧ Below w.heap.size w W) := by
    refine ⟨hW, ?_, ?_, hbW⟩
    · rw [hW]; exact (heap_alloc_lt _ _ (by simp)).trans (heap_alloc_at _ _ rfl)
    · rw [hW]; exact heap_alloc_at _ _ (by simp)
  have HO := hideIt (gOpened b1 xs xo nx xc b2 ys yo ny yc W (hr1.nx hbW) hn1 hm1 hb1 hx1 (hr2.nx hbW) hn2 hm2 hb2 hx2)
  have HR : Hid ((RowAt W (.slice co n cc) n (flatK os) ∧ os.length = n ∧ ∀ x ∈ os, I64 x.b) ∧ (RowAt W (.slice eo m ec) m (flatK ot) ∧ ot.length = m ∧ ∀ x ∈ ot, I64 x.b)) := ⟨⟨hr.nx hbW, hn, hI⟩, hr3.nx hbW, hn3, hI3⟩
  clear hr1 hn1 hm1 hb1 hx1 hr2 hn2 hm2 hb2 hx2 hr hn hI hW hbW hr3 hn3 hI3
  go_enter Tryz.func6, Tryz.ntmps6
  go_upto_region 1 with fail
  rw [← HW.out.1]
  obtain ⟨a0, a1⟩ := gblk2 HW.out.2.1
  obtain ⟨d0, d1⟩ := gblk2 HW.out.2.2.1
  go_wp2_with fail
  refine HO.out.mono ?_
  rintro e w1 ⟨gg, gp, S0, X0, Fp0, A, B, ao, ac, bo, bc, rfl, hgame, hokA, hokB, hfr, hF, hb1⟩
  obtain ⟨h1, h2, h3⟩ := arr_fresh hgame hokA hfr hF hb1
  have HAR := hideIt (gArrived gg gp S0 X0 Fp0 A B ao ac bo bc W w1 os co n cc ot eo m ec hokA hokB h1 h2 h3 HR.out.1.1 HR.out.1.2.1 HR.out.1.2.2 HR.out.2.1 HR.out.2.2.1 HR.out.2.2.2 hq hq3)
  clear hgame hokA hokB hfr hF hb1 a0 a1 d0 d1 h1 h2 h3
  go_wp2_with fail
  refine HAR.out.mono ?_
  rintro e w2 ⟨⟨T1, T2⟩, vt, tc, S, X, Fp, rfl, hgo, har, hcal, hpln, hpe⟩
  obtain ⟨nt, hnt⟩ : ∃ nt, T2.length = nt := ⟨_, rfl⟩
  obtain ⟨V, hV⟩ : ∃ V, V = w2.alloc (bTab T1 (.slice vt nt tc)) := ⟨_, rfl⟩
  have hbV : Below w2.heap.size w2 V := by rw [hV]; exact nx_alloc _ _
  have hex := hpln.none hpe
  obtain ⟨e1, e2⟩ : T1 = S.bud ∧ T2 = S.pools := ⟨congrArg Prod.fst hex.2.2, congrArg Prod.snd hex.2.2⟩
  have HV : Hid (V = w2.alloc (bTab T1 (.slice vt nt tc)) ∧ V.heap[w2.heap.size]? = some (bTab T1 (.slice vt nt tc)) ∧ ArrI W V gg gp S X Fp A B ao ac bo bc (n + m + 410) ∧ Calm S ∧ S.plan = [] ∧ S.begun = false ∧ S.back = false ∧ T1 = S.bud ∧ T2 = S.pools ∧ T2.length = nt ∧ RowAt V (.slice vt nt tc) nt (flatP T2)) := by
    have hrow := (goal_row har.game hgo).nx hbV
    simp only [hnt] at hrow
    exact ⟨hV, by rw [hV]; exact heap_alloc_at _ _ rfl, har.below hbV, hcal, hpe, hex.1, hex.2.1, e1, e2, hnt, hrow⟩
  simp only [hnt]
  obtain ⟨gt, hgt⟩ : ∃ gt, w2.heap.size = gt := ⟨_, rfl⟩
  have KT := hideIt hgt
  clear hgo har hcal hpln hpe hbV hV hex e1 e2 hnt hgt
  go_upto_region 7 with fail
  rw [← HV.out.1, KT.out]
  have hfit := fits_way HV.out.2.2.1.run HV.out.2.2.1.pot (by omega)
  have HSH := hideIt (show_any gp S X Fp V HV.out.2.2.1.game.desk hfit.1)
  have HFT := hideIt hfit
  obtain ⟨x0, x1, x2, x3, x4⟩ := gblk5 HV.out.2.2.1.game.box
  clear hfit
  go_wp2_with fail
  refine HSH.out.mono ?_
  rintro e w3 ⟨⟨po, pc, so, sc, wo, wc, qo, qc⟩, rfl, hnew, hb3⟩
  obtain ⟨n2, hn2⟩ : ∃ n2, S.srv.length = n2 := ⟨_, rfl⟩
  obtain ⟨n3, hn3⟩ : ∃ n3, S.wts.length = n3 := ⟨_, rfl⟩
  obtain ⟨b, hb⟩ : ∃ b, S.bud = b := ⟨_, rfl⟩
  have hn1 : S.pools.length = nt := by rw [← HV.out.2.2.2.2.2.2.2.2.1]; exact HV.out.2.2.2.2.2.2.2.2.2.1
  have hn4 : S.plan.length = 0 := by rw [HV.out.2.2.2.2.1]; rfl
  have hag : staA S ⟨po, pc, so, sc, wo, wc, qo, qc⟩ = .agg #[.int .i64 b, .slice po nt pc, .slice so n2 sc, .slice wo n3 wc, .slice qo 0 qc, .bool false, .bool false] := by simp only [staA, hn1, hn2, hn3, hn4, hb, HV.out.2.2.2.2.2.1, HV.out.2.2.2.2.2.2.1]
  rw [hag]
  obtain ⟨Z, hZ⟩ : ∃ Z, Z = w3.alloc (.cells #[.int .i64 b, .slice po nt pc, .slice so n2 sc, .slice wo n3 wc, .slice qo 0 qc, .bool false, .bool false] 33) := ⟨_, rfl⟩
  have hbZ : Below V.heap.size V Z := by rw [hZ]; exact nx_trans hb3 (nx_alloc _ _)
  have KZ : Hid (Z = w3.alloc (.cells #[.int .i64 b, .slice po nt pc, .slice so n2 sc, .slice wo n3 wc, .slice qo 0 qc, .bool false, .bool false] 33) ∧ Z.heap[w3.heap.size]? = some (.cells #[.int .i64 b, .slice po nt pc, .slice so n2 sc, .slice wo n3 wc, .slice qo 0 qc, .bool false, .bool false] 33) ∧ Below W.heap.size W Z ∧ Z.heap[gt]? = some (bTab b (.slice vt nt tc))) := by
    refine ⟨hZ, by rw [hZ]; exact heap_alloc_at _ _ rfl, nx_trans HV.out.2.2.1.bel hbZ, ?_⟩
    have := gblk HV.out.2.1 hbZ
    rw [KT.out, HV.out.2.2.2.2.2.2.2.1, hb] at this
    exact this
  have hRW : RowAt Z (.slice po nt pc) nt (flatP S.pools) ∧ RowAt Z (.slice so n2 sc) n2 (flatV S.srv) ∧ RowAt Z (.slice vt nt tc) nt (flatP S.pools) := by
    have h1 := (own_row hnew.p).nx (nx_alloc w3 (.cells #[.int .i64 b, .slice po nt pc, .slice so n2 sc, .slice wo n3 wc, .slice qo 0 qc, .bool false, .bool false] 33))
    have h2 := (own_row hnew.s).nx (nx_alloc w3 (.cells #[.int .i64 b, .slice po nt pc, .slice so n2 sc, .slice wo n3 wc, .slice qo 0 qc, .bool false, .bool false] 33))
    have h3 := HV.out.2.2.2.2.2.2.2.2.2.2.nx hbZ
    rw [← hZ, hn1] at h1
    rw [← hZ, hn2] at h2
    rw [HV.out.2.2.2.2.2.2.2.2.1] at h3
    exact ⟨h1, h2, h3⟩
  have HSM := hideIt (ksame_true b po vt nt pc tc S.pools Z hRW.1 hRW.2.2 hn1 (by rw [← hn1]; have h6 : S.pools.length ≤ 6 := by { obtain ⟨g, hg⟩ := HV.out.2.2.1.run.pln; exact hg.tab.len }; unfold maxLen; omega))
  have HSU : Hid (∀ (u : World) (i : Nat) (x : Srv), Below Z.heap.size Z u → S.srv[i]? = some x → Calls Tryz.prog 19 #[.agg #[.int .i64 b, .slice po nt pc, .slice so n2 sc, .slice wo n3 wc, .slice qo 0 qc, .bool false, .bool false], .int .i64 (i : Int)] u fun e w' => e = .returned (.bool false) ∧ Below u.heap.size u w') := by
    intro u i x hu hi
    have h6 : S.pools.length ≤ 6 := by { obtain ⟨g, hg⟩ := HV.out.2.2.1.run.pln; exact hg.tab.len }
    have := gSurplus b po nt pc so n2 sc wo n3 wc qo 0 qc false false S.pools S.srv u i x.id x.pool x.far x.client (hRW.1.nx hu) hn1 (by omega) (hRW.2.1.nx hu) hn2 (by have := HFT.out.2.2.1; omega) hi
    have e : surG b S.pools S.srv x = false := by
      rw [← hb, surG_eq]
      have hx := List.mem_of_getElem? hi
      exact HV.out.2.2.1.run.good.fine.sur x hx (HV.out.2.2.2.1.2 x hx)
    rw [e] at this
    exact this
  have HLN : Hid (S.srv.length = n2) := hn2
  have hn2' : n2 ≤ 1099511627776 := by rw [← hn2]; exact HFT.out.2.2.1
  obtain ⟨s0, s1, s2, s3, s4, s5, s6⟩ := gblk7 KZ.out.2.1
  obtain ⟨t0, t1⟩ := gblk2 KZ.out.2.2.2
  clear hnew hb3 hn2 hn3 hb hn1 hn4 hag hZ hbZ hRW x0 x1 x2 x3 x4
  go_upto_region 8 with fail
  rw [← KZ.out.1]
  go_wp2_with fail
  refine HSM.out.mono ?_
  rintro e w4 ⟨rfl, hb4⟩
  have HB4 := hideIt hb4
  clear hb4 s0 s1 s2 s3 s4 s5 s6 t0 t1
  go_wp2_with fail
  go_loopw [14] (fun i wr => ∃ k : Nat, k ≤ n2 ∧ i = .int .i64 k ∧ Hid (Below Z.heap.size Z wr)) (fun i _ => n2 - (intOf i).toNat)
  case atStart => exact ⟨0, Nat.zero_le _, rfl, HB4.out⟩
  case round =>
    clear HB4
    obtain ⟨k, hk, rfl, HB⟩ := hrel
    obtain ⟨s0, s1, s2, s3, s4, s5, s6⟩ := gblk7 (gblk KZ.out.2.1 HB.out)
    by_cases hlt : k < n2
    · obtain ⟨x, hx⟩ : ∃ p, S.srv[k]? = some p := ⟨_, List.getElem?_eq_getElem (by rw [HLN.out]; exact hlt)⟩
      have HC := hideIt (HSU.out wr k x HB.out hx)
      have hki : (k : Int) < (n2 : Int) := by omega
      clear hx
      go_wp2_with fail
      refine HC.out.mono ?_
      rintro e w5 ⟨rfl, hb5⟩
      have HB5 : Hid (Below Z.heap.size Z w5) := nx_trans HB.out hb5
      clear hb5 s0 s1 s2 s3 s4 s5 s6
      go_wp2_with fail
      go_roundw
      case rel => exact ⟨k + 1, by omega, by go_num, HB5.out⟩
      case measure => simp [intOf]; omega
    · have hki : ¬ (k : Int) < (n2 : Int) := by omega
      go_wp2_with fail
      go_ret
      exact ⟨rfl, nx_trans HW.out.2.2.2 (nx_trans KZ.out.2.2.1 HB.out)⟩
end Lw
end Go.Proofs.YtohbonfngeblkaaGreat
namespace Go.Proofs.YtohbonfngeblkaaGreat
namespace Lw
open Go.ChangeShapes Go.WideShapes Go.ChangeAt Go.RowKit Go.ChangeMaps
open Co
set_option maxRecDepth 100000 in
theorem arrives_contract (H : Type) (enc : TypeId × Value → H) (W : World) (base : Nat) (args : Array Value) (ds gs : List (DataW H)) (before : List MemPlace)
    (hval : ∀ (j : Nat) t v, Tryz.f6.params[j]? = some t → args[j]? = some v → Value.okWide Tryz.prog W .any base t v)
    (hW : DataW.Whole enc Tryz.prog Tryz.f6.params.toList Rows.arrivesSpec.vars false W args.toList ds gs before) (hk : Rows.uptoSmall H (ds ++ gs) = true) :
    Calls Tryz.prog 6 args W fun e W' => ∃ v, e = .returned v ∧ Rows.arrivesSpec.post enc Tryz.prog Tryz.f6 false true false false W args v W' := by
  have hW' := hW
  obtain ⟨p, q, hA0, hV, rfl, hfz, hnd⟩ := hW
  have hA : DataW.TrodAll enc Tryz.prog W 0 (fun _ => true) true Tryz.f6.params.toList args.toList ds p := hA0
  rw [Tryz.params6] at hA hval
  obtain ⟨v0, vs0, d0, ds0, p0, q0, hargs0, rfl, rfl, h0, r0⟩ := trodAll_cons hA
  obtain ⟨v1, vs1, d1, ds1, p1, q1, hargs1, rfl, rfl, h1, r1⟩ := trodAll_cons r0
  obtain ⟨v2, vs2, d2, ds2, p2, q2, hargs2, rfl, rfl, h2, r2⟩ := trodAll_cons r1
  obtain ⟨v3, vs3, d3, ds3, p3, q3, hargs3, rfl, rfl, h3, r3⟩ := trodAll_cons r2
  obtain ⟨rfl, rfl, rfl⟩ := trodAll_nil r3
  obtain rfl : args = #[v0, v1, v2, v3] := by cases args; simp_all
  obtain ⟨rfl, rfl⟩ := trodVars_none hV
  have hok0 := hval 0 24 v0 rfl rfl
  have hok1 := hval 1 24 v1 rfl rfl
  have hok2 := hval 2 25 v2 rfl rfl
  have hok3 := hval 3 25 v3 rfl rfl
  obtain ⟨b0, xo0, nx0, xc0, ps0, rfl, hps0, hn0, hm0, hb0, hx0⟩ := kopen_table hok0 h0
  obtain ⟨b1, xo1, nx1, xc1, ps1, rfl, hps1, hn1, hm1, hb1, hx1⟩ := kopen_table hok1 h1
  obtain ⟨co2, n2, cc2, os2, rfl, hrow2, hno2, hI2, hd2⟩ := open_opks hok2 h2
  obtain ⟨co3, n3, cc3, os3, rfl, hrow3, hno3, hI3, hd3⟩ := open_opks hok3 h3
  clear hA0
  simp only [List.append_nil] at hW' hk
  have hbk : Rows.uptoBulkAll [d0, d1, d2, d3] ≤ 1048576 := of_decide_eq_true hk
  have hs2 : n2 ≤ 1048576 := gbulk_mem (d := d2) (by simp) hd2 hbk
  have hs3 : n3 ≤ 1048576 := gbulk_mem (d := d3) (by simp) hd3 hbk
  have hlt0 : ∀ x ∈ p0, x.block < W.heap.size := fun x hx => hW'.lt x (by simp [hx])
  have hlt1 : ∀ x ∈ p1, x.block < W.heap.size := fun x hx => hW'.lt x (by simp [hx])
  have hlt2 : ∀ x ∈ p2, x.block < W.heap.size := fun x hx => hW'.lt x (by simp [hx])
  have hlt3 : ∀ x ∈ p3, x.block < W.heap.size := fun x hx => hW'.lt x (by simp [hx])
  refine (arrives_any b0 ps0 xo0 nx0 xc0 b1 ps1 xo1 nx1 xc1 os2 co2 n2 cc2 os3 co3 n3 cc3 W hps0 hn0 hm0 hb0 hx0 hps1 hn1 hm1 hb1 hx1 hrow2 hno2 (fun x hx => (hI2 x hx).2.2) (by omega) hrow3 hno3 (fun x hx => (hI3 x hx).2.2) (by omega)).mono fun e W' ⟨he, hb⟩ => ?_
  subst he
  refine ⟨_, rfl, _, _, _, [], p0 ++ (p1 ++ (p2 ++ (p3 ++ []))), [], hW', ?_, ?_, rfl, hb.frame _, fun h => by cases h⟩
  · exact trodAll_cons_mk (shut_bool Tryz.underlying4 _) trodAll_mk0
  · exact trodAll_cons_mk (Below.trod laidOutG (by kernel_rfl) (of_decide_eq_true (by kernel_rfl)) h0 hb hlt0) (trodAll_cons_mk (Below.trod laidOutG (by kernel_rfl) (of_decide_eq_true (by kernel_rfl)) h1 hb hlt1) (trodAll_cons_mk (Below.trod laidOutG (by kernel_rfl) (of_decide_eq_true (by kernel_rfl)) h2 hb hlt2) (trodAll_cons_mk (Below.trod laidOutG (by kernel_rfl) (of_decide_eq_true (by kernel_rfl)) h3 hb hlt3) trodAll_mk0)))
set_option maxRecDepth 100000 in
theorem arrives_lifted (os : Os) (started : os.Started) (H : Type) (enc : TypeId × Value → H) (F : Stop.Interp) :
    ReturnsInHanded {} Tryz.checked os 6 .any ((Rows.OpenSpec.upto Rows.arrivesSpec).pre6 enc Tryz.prog Tryz.f6 Rows.arrivesUptoRow.domain false) (((Rows.OpenSpec.upto Rows.arrivesSpec).at F).post enc Tryz.prog Tryz.f6 false true false false) := by
  refine returnsInHanded_of_cond (C := Tryz.checked) (s := Rows.OpenSpec.upto Rows.arrivesSpec) (k := Rows.uptoSmall) rfl ownG started (by kernel_rfl) Tryz.func6
    (OpenSpec.witness (enc := enc) (C := Tryz.checked) (s := Rows.OpenSpec.upto Rows.arrivesSpec) (k := Rows.uptoSmall) rfl false ⟨#[], #[.agg #[.int .i64 0, .slice none 0 0], .agg #[.int .i64 0, .slice none 0 0], .slice none 0 0, .slice none 0 0], []⟩ 8 (by kernel_rfl) (by kernel_rfl) (by kernel_rfl)
      (x := ([.agg [.lit (.int .i64 0), .nil], .agg [.lit (.int .i64 0), .nil], .nil, .nil], [], [])) (by kernel_rfl) rfl (by kernel_rfl)) ?_
  intro W base args ds gs before hval hW _ hk _
  exact arrives_contract H enc W base args ds gs before hval hW hk
end Lw
theorem arrives_upto_said : Rows.ArrivesUptoSaid :=
  OpenClaim.holds_of_cond 6 Tryz.f6 rfl rfl rfl rfl rfl rfl rfl ⟨rfl, rfl, rfl, rfl, rfl⟩ rfl rfl rfl rfl rfl (by kernel_rfl) Tryz.func6 (by kernel_rfl)
    (of_decide_eq_true (by kernel_rfl)) (by unfold Func.isWrapper; first | (rw [if_pos (by decide +kernel)]; kernel_rfl) | (rw [if_neg (by decide +kernel)]; exact ⟨rfl, rfl⟩))
    (fun os started H enc _ F => Lw.arrives_lifted os started H enc F)
#print axioms arrives_upto_said
end Go.Proofs.YtohbonfngeblkaaGreat
