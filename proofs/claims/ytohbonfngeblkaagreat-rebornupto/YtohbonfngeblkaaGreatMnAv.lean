import Derived.Test.YtohbonfngeblkaaGreatMnAu
import Derived.Test.YtohbonfngeblkaaGreatMnAs
namespace Go.Proofs.YtohbonfngeblkaaGreat
open Go.RowKit
namespace Lw
open Co
theorem goal_row {w : World} {gg gp : Nat} {S : Sta} {X : Aux} {Fp : Nat → Prop} {A B : Int × List Pl} {ao : Option Addr} {ac : Nat} {bo : Option Addr} {bc : Nat} (h : GameAt w gg gp S X Fp A B ao ac bo bc) {T : Int × List Pl} {vt : Option Addr} {tc : Nat} (hg : Goal T vt tc A B ao ac bo bc) : RowAt w (.slice vt T.2.length tc) T.2.length (flatP T.2) := by
  rcases hg with ⟨rfl, rfl, rfl⟩ | ⟨rfl, rfl, rfl⟩
  · exact h.a
  · exact h.b
theorem arr_fresh {W w : World} {gg gp : Nat} {S : Sta} {X : Aux} {Fp : Nat → Prop} {A B : Int × List Pl} {ao : Option Addr} {ac : Nat} {bo : Option Addr} {bc : Nat} (h : GameAt w gg gp S X Fp A B ao ac bo bc) (hA : Okt A.1 A.2) (hf : Fresh S X A) (hF : ∀ y, Fp y → W.heap.size ≤ y) (hb : Below W.heap.size W w) : ArrI W w gg gp S X Fp A B ao ac bo bc 0 ∧ Pln S X A ∧ S.plan = [] := by
  have hr := run1_fresh hA hf
  obtain ⟨g, hg⟩ := hr.pln
  have e := (hg.none hf.rest.1).2.2
  rw [hf.bud, hf.pools] at e
  subst e
  exact ⟨⟨h, hr, hf.pot, hF, hb⟩, hg, hf.rest.1⟩
set_option maxRecDepth 20000 in
set_option maxHeartbeats 8000000 in
theorem arrives_any (b1 : Int) (xs : List Pl) (xo : Option Addr) (nx xc : Nat) (b2 : Int) (ys : List Pl) (yo : Option Addr) (ny yc : Nat) (os : List Opk) (co : Option Addr) (n cc : Nat) (ot : List Opk) (eo : Option Addr) (m ec : Nat) (w : World)
    (hr1 : RowAt w (.slice xo nx xc) nx (flatP xs)) (hn1 : xs.length = nx) (hm1 : nx ≤ maxLen) (hb1 : I64 b1) (hx1 : ∀ x ∈ xs, I64 x.sz ∧ I64 x.wt ∧ I64 x.fr)
    (hr2 : RowAt w (.slice yo ny yc) ny (flatP ys)) (hn2 : ys.length = ny) (hm2 : ny ≤ maxLen) (hb2 : I64 b2) (hx2 : ∀ x ∈ ys, I64 x.sz ∧ I64 x.wt ∧ I64 x.fr)
    (hr : RowAt w (.slice co n cc) n (flatK os)) (hn : os.length = n) (hI : ∀ x ∈ os, I64 x.b) (hq : n ≤ 268435456)
    (hr3 : RowAt w (.slice eo m ec) m (flatK ot)) (hn3 : ot.length = m) (hI3 : ∀ x ∈ ot, I64 x.b) (hq3 : m ≤ 268435456) :
    Calls Tryz.prog 6 #[.agg #[.int .i64 b1, .slice xo nx xc], .agg #[.int .i64 b2, .slice yo ny yc], .slice co n cc, .slice eo m ec] w fun e w' => e = .returned (.bool true) ∧ Below w.heap.size w w' := by
  obtain ⟨W, hW⟩ : ∃ W, W = (w.alloc (bTab b1 (.slice xo nx xc))).alloc (bTab b2 (.slice yo ny yc)) := ⟨_, rfl⟩
  have hbW : Below w.heap.size w W := by rw [hW]; exact nx_trans (nx_alloc _ _) (nx_alloc _ _)
  have HW : Hid (W = (w.alloc (bTab b1 (.slice xo nx xc))).alloc (bTab b2 (.slice yo ny yc)) ∧ W.heap[w.heap.size]? = some (bTab b1 (.slice xo nx xc)) ∧ W.heap[w.heap.size + 1]? = some (bTab b2 (.slice yo ny yc)) ∧ Below w.heap.size w W) := by
    refine ⟨hW, ?_, ?_, hbW⟩
    · rw [hW]; exact (heap_alloc_lt _ _ (by simp)).trans (heap_alloc_at _ _ rfl)
    · rw [hW]; exact heap_alloc_at _ _ (by simp)
  have HO := hideIt (gOpened b1 xs xo nx xc b2 ys yo ny yc W (hr1.nx hbW) hn1 hm1 hb1 hx1 (hr2.nx hbW) hn2 hm2 hb2 hx2)
  have HR : Hid ((RowAt W (.slice co n cc) n (flatK os) ∧ os.length = n ∧ ∀ x ∈ os, I64 x.b) ∧ (RowAt W (.slice eo m ec) m (flatK ot) ∧ ot.length = m ∧ ∀ x ∈ ot, I64 x.b)) := ⟨⟨hr.nx hbW, hn, hI⟩, hr3.nx hbW, hn3, hI3⟩
  clear hr1 hn1 hm1 hb1 hx1 hr2 hn2 hm2 hb2 hx2 hr hn hI hW hbW hr3 hn3 hI3
  go_enter Tryz.func6, Tryz.ntmps6
  go_upto_region 1 with fail
  rw [← HW.out.1]
  obtain ⟨a0, a1⟩ := gblk2 HW.out.2.1
  obtain ⟨d0, d1⟩ := gblk2 HW.out.2.2.1
  go_wp2_with fail
  refine HO.out.mono ?_
  rintro e w1 ⟨gg, gp, S0, X0, Fp0, A, B, ao, ac, bo, bc, rfl, hgame, hokA, hokB, hfr, hF, hb1⟩
  obtain ⟨h1, h2, h3⟩ := arr_fresh hgame hokA hfr hF hb1
  have HAR := hideIt (gArrived gg gp S0 X0 Fp0 A B ao ac bo bc W w1 os co n cc ot eo m ec hokA hokB h1 h2 h3 HR.out.1.1 HR.out.1.2.1 HR.out.1.2.2 HR.out.2.1 HR.out.2.2.1 HR.out.2.2.2 hq hq3)
  clear hgame hokA hokB hfr hF hb1 a0 a1 d0 d1 h1 h2 h3
  go_wp2_with fail
  refine HAR.out.mono ?_
  rintro e w2 ⟨⟨T1, T2⟩, vt, tc, S, X, Fp, rfl, hgo, har, hcal, hpln, hpe⟩
  obtain ⟨nt, hnt⟩ : ∃ nt, T2.length = nt := ⟨_, rfl⟩
  obtain ⟨V, hV⟩ : ∃ V, V = w2.alloc (bTab T1 (.slice vt nt tc)) := ⟨_, rfl⟩
  have hbV : Below w2.heap.size w2 V := by rw [hV]; exact nx_alloc _ _
  have hex := hpln.none hpe
  obtain ⟨e1, e2⟩ : T1 = S.bud ∧ T2 = S.pools := ⟨congrArg Prod.fst hex.2.2, congrArg Prod.snd hex.2.2⟩
  have HV : Hid (V = w2.alloc (bTab T1 (.slice vt nt tc)) ∧ V.heap[w2.heap.size]? = some (bTab T1 (.slice vt nt tc)) ∧ ArrI W V gg gp S X Fp A B ao ac bo bc (n + m + 410) ∧ Calm S ∧ S.plan = [] ∧ S.begun = false ∧ S.back = false ∧ T1 = S.bud ∧ T2 = S.pools ∧ T2.length = nt ∧ RowAt V (.slice vt nt tc) nt (flatP T2)) := by
    have hrow := (goal_row har.game hgo).nx hbV
    simp only [hnt] at hrow
    exact ⟨hV, by rw [hV]; exact heap_alloc_at _ _ rfl, har.below hbV, hcal, hpe, hex.1, hex.2.1, e1, e2, hnt, hrow⟩
  simp only [hnt]
  obtain ⟨gt, hgt⟩ : ∃ gt, w2.heap.size = gt := ⟨_, rfl⟩
  have KT := hideIt hgt
  clear hgo har hcal hpln hpe hbV hV hex e1 e2 hnt hgt
  go_upto_region 7 with fail
  rw [← HV.out.1, KT.out]
  have hfit := fits_way HV.out.2.2.1.run HV.out.2.2.1.pot (by omega)
  have HSH := hideIt (show_any gp S X Fp V HV.out.2.2.1.game.desk hfit.1)
  have HFT := hideIt hfit
  obtain ⟨x0, x1, x2, x3, x4⟩ := gblk5 HV.out.2.2.1.game.box
  clear hfit
  go_wp2_with fail
  refine HSH.out.mono ?_
  rintro e w3 ⟨⟨po, pc, so, sc, wo, wc, qo, qc⟩, rfl, hnew, hb3⟩
  obtain ⟨n2, hn2⟩ : ∃ n2, S.srv.length = n2 := ⟨_, rfl⟩
  obtain ⟨n3, hn3⟩ : ∃ n3, S.wts.length = n3 := ⟨_, rfl⟩
  obtain ⟨b, hb⟩ : ∃ b, S.bud = b := ⟨_, rfl⟩
  have hn1 : S.pools.length = nt := by rw [← HV.out.2.2.2.2.2.2.2.2.1]; exact HV.out.2.2.2.2.2.2.2.2.2.1
  have hn4 : S.plan.length = 0 := by rw [HV.out.2.2.2.2.1]; rfl
  have hag : staA S ⟨po, pc, so, sc, wo, wc, qo, qc⟩ = .agg #[.int .i64 b, .slice po nt pc, .slice so n2 sc, .slice wo n3 wc, .slice qo 0 qc, .bool false, .bool false] := by simp only [staA, hn1, hn2, hn3, hn4, hb, HV.out.2.2.2.2.2.1, HV.out.2.2.2.2.2.2.1]
  rw [hag]
  obtain ⟨Z, hZ⟩ : ∃ Z, Z = w3.alloc (.cells #[.int .i64 b, .slice po nt pc, .slice so n2 sc, .slice wo n3 wc, .slice qo 0 qc, .bool false, .bool false] 33) := ⟨_, rfl⟩
  have hbZ : Below V.heap.size V Z := by rw [hZ]; exact nx_trans hb3 (nx_alloc _ _)
  have KZ : Hid (Z = w3.alloc (.cells #[.int .i64 b, .slice po nt pc, .slice so n2 sc, .slice wo n3 wc, .slice qo 0 qc, .bool false, .bool false] 33) ∧ Z.heap[w3.heap.size]? = some (.cells #[.int .i64 b, .slice po nt pc, .slice so n2 sc, .slice wo n3 wc, .slice qo 0 qc, .bool false, .bool false] 33) ∧ Below W.heap.size W Z ∧ Z.heap[gt]? = some (bTab b (.slice vt nt tc))) := by
    refine ⟨hZ, by rw [hZ]; exact heap_alloc_at _ _ rfl, nx_trans HV.out.2.2.1.bel hbZ, ?_⟩
    have := gblk HV.out.2.1 hbZ
    rw [KT.out, HV.out.2.2.2.2.2.2.2.1, hb] at this
    exact this
  have hRW : RowAt Z (.slice po nt pc) nt (flatP S.pools) ∧ RowAt Z (.slice so n2 sc) n2 (flatV S.srv) ∧ RowAt Z (.slice vt nt tc) nt (flatP S.pools) := by
    have h1 := (own_row hnew.p).nx (nx_alloc w3 (.cells #[.int .i64 b, .slice po nt pc, .slice so n2 sc, .slice wo n3 wc, .slice qo 0 qc, .bool false, .bool false] 33))
    have h2 := (own_row hnew.s).nx (nx_alloc w3 (.cells #[.int .i64 b, .slice po nt pc, .slice so n2 sc, .slice wo n3 wc, .slice qo 0 qc, .bool false, .bool false] 33))
    have h3 := HV.out.2.2.2.2.2.2.2.2.2.2.nx hbZ
    rw [← hZ, hn1] at h1
    rw [← hZ, hn2] at h2
    rw [HV.out.2.2.2.2.2.2.2.2.1] at h3
    exact ⟨h1, h2, h3⟩
  have HSM := hideIt (ksame_true b po vt nt pc tc S.pools Z hRW.1 hRW.2.2 hn1 (by rw [← hn1]; have h6 : S.pools.length ≤ 6 := by { obtain ⟨g, hg⟩ := HV.out.2.2.1.run.pln; exact hg.tab.len }; unfold maxLen; omega))
  have HSU : Hid (∀ (u : World) (i : Nat) (x : Srv), Below Z.heap.size Z u → S.srv[i]? = some x → Calls Tryz.prog 19 #[.agg #[.int .i64 b, .slice po nt pc, .slice so n2 sc, .slice wo n3 wc, .slice qo 0 qc, .bool false, .bool false], .int .i64 (i : Int)] u fun e w' => e = .returned (.bool false) ∧ Below u.heap.size u w') := by
    intro u i x hu hi
    have h6 : S.pools.length ≤ 6 := by { obtain ⟨g, hg⟩ := HV.out.2.2.1.run.pln; exact hg.tab.len }
    have := gSurplus b po nt pc so n2 sc wo n3 wc qo 0 qc false false S.pools S.srv u i x.id x.pool x.far x.client (hRW.1.nx hu) hn1 (by omega) (hRW.2.1.nx hu) hn2 (by have := HFT.out.2.2.1; omega) hi
    have e : surG b S.pools S.srv x = false := by
      rw [← hb, surG_eq]
      have hx := List.mem_of_getElem? hi
      exact HV.out.2.2.1.run.good.fine.sur x hx (HV.out.2.2.2.1.2 x hx)
    rw [e] at this
    exact this
  have HLN : Hid (S.srv.length = n2) := hn2
  have hn2' : n2 ≤ 1099511627776 := by rw [← hn2]; exact HFT.out.2.2.1
  obtain ⟨s0, s1, s2, s3, s4, s5, s6⟩ := gblk7 KZ.out.2.1
  obtain ⟨t0, t1⟩ := gblk2 KZ.out.2.2.2
  clear hnew hb3 hn2 hn3 hb hn1 hn4 hag hZ hbZ hRW x0 x1 x2 x3 x4
  go_upto_region 8 with fail
  rw [← KZ.out.1]
  go_wp2_with fail
  refine HSM.out.mono ?_
  rintro e w4 ⟨rfl, hb4⟩
  have HB4 := hideIt hb4
  clear hb4 s0 s1 s2 s3 s4 s5 s6 t0 t1
  go_wp2_with fail
  go_loopw [14] (fun i wr => ∃ k : Nat, k ≤ n2 ∧ i = .int .i64 k ∧ Hid (Below Z.heap.size Z wr)) (fun i _ => n2 - (intOf i).toNat)
  case atStart => exact ⟨0, Nat.zero_le _, rfl, HB4.out⟩
  case round =>
    clear HB4
    obtain ⟨k, hk, rfl, HB⟩ := hrel
    obtain ⟨s0, s1, s2, s3, s4, s5, s6⟩ := gblk7 (gblk KZ.out.2.1 HB.out)
    by_cases hlt : k < n2
    · obtain ⟨x, hx⟩ : ∃ p, S.srv[k]? = some p := ⟨_, List.getElem?_eq_getElem (by rw [HLN.out]; exact hlt)⟩
      have HC := hideIt (HSU.out wr k x HB.out hx)
      have hki : (k : Int) < (n2 : Int) := by omega
      clear hx
      go_wp2_with fail
      refine HC.out.mono ?_
      rintro e w5 ⟨rfl, hb5⟩
      have HB5 : Hid (Below Z.heap.size Z w5) := nx_trans HB.out hb5
      clear hb5 s0 s1 s2 s3 s4 s5 s6
      go_wp2_with fail
      go_roundw
      case rel => exact ⟨k + 1, by omega, by go_num, HB5.out⟩
      case measure => simp [intOf]; omega
    · have hki : ¬ (k : Int) < (n2 : Int) := by omega
      go_wp2_with fail
      go_ret
      exact ⟨rfl, nx_trans HW.out.2.2.2 (nx_trans KZ.out.2.2.1 HB.out)⟩
end Lw
end Go.Proofs.YtohbonfngeblkaaGreat
namespace Go.Proofs.YtohbonfngeblkaaGreat
open Go.RowKit
namespace Lw
open Co
def sh (d : Int) (x : Srv) : Srv := ⟨x.id + d, x.pool, x.far, x.client⟩
def shS (d : Int) (S : Sta) : Sta := { S with srv := S.srv.map (sh d) }
theorem find_sh {d : Int} {p : Srv → Bool} (hp : ∀ x, p (sh d x) = p x) (l : List Srv) : (l.map (sh d)).find? p = (l.find? p).map (sh d) := by
  rw [List.find?_map]
  congr 2
  funext x
  exact hp x
theorem some_sh {d : Int} {p : Srv → Bool} (hp : ∀ x, p (sh d x) = p x) (l : List Srv) : ((l.map (sh d)).find? p).isSome = (l.find? p).isSome := by
  rw [find_sh hp, Option.isSome_map]
theorem cnt_sh {d : Int} {p : Srv → Bool} (hp : ∀ x, p (sh d x) = p x) (l : List Srv) : cntG p (l.map (sh d)) = cntG p l := by
  unfold cntG
  rw [List.filter_map, List.length_map]
  congr 2
  funext x
  exact hp x
theorem id_sh (d a b : Int) : (a + d = b + d) = (a = b) := by
  rw [eq_iff_iff]; omega
theorem hand_sh (d : Int) (S : Sta) (id c : Int) : cHand (shS d S) (id + d) c = shS d (cHand S id c) := by
  unfold cHand shS
  simp only [List.map_map]
  congr 2
  funext x
  simp only [Function.comp, sh, id_sh]
  split <;> rfl
theorem shut_sh (d : Int) (S : Sta) (id : Int) : cShut (shS d S) (id + d) = shS d (cShut S id) := by
  unfold cShut shS
  simp only [List.filter_map]
  congr 3
  funext x
  simp only [Function.comp, sh, id_sh]
theorem quit_sh (d : Int) (S : Sta) (c : Int) : cQuit (shS d S) c = shS d (cQuit S c) := rfl
theorem open_sh (d : Int) (S : Sta) (op : Int) (x : Pl) (c : Int) : cOpen (shS d S) (op + d) x c = shS d (cOpen S op x c) := by
  unfold cOpen shS
  simp only [List.map_append, List.map_cons, List.map_nil, sh]
  have : op + d + 1 = op + 1 + d := by omega
  rw [this]
def shP (d : Int) (y : Sta × Int) : Sta × Int := (shS d y.1, y.2 + d)
theorem give_sh (d : Int) (S : Sta) (op : Int) (c : Wtr) : cGive (shS d S) (op + d) c = (cGive S op c).map (shP d) := by
  unfold cGive
  show (match S.pools.find? (isNameP c.pool) with | none => none | some x => _) = _
  cases hx : S.pools.find? (isNameP c.pool) with
  | none => rfl
  | some x =>
    simp only
    have e1 : (shS d S).srv = S.srv.map (sh d) := rfl
    have e2 : (shS d S).bud = S.bud := rfl
    rw [e1, e2, find_sh (p := fun s => isPoolV x.nm s && isCliV 0 s) (fun _ => rfl), cnt_sh (p := isPoolV x.nm) (fun _ => rfl), List.length_map, find_sh (p := isCliV 0) (fun _ => rfl)]
    cases hf : S.srv.find? (fun s => isPoolV x.nm s && isCliV 0 s) with
    | some s =>
      simp only [Option.map_some]
      show some (cHand (shS d S) (s.id + d) c.client, op + d) = _
      rw [hand_sh]; rfl
    | none =>
      simp only [Option.map_none]
      have e3 : op + d + 1 = op + 1 + d := by omega
      by_cases h1 : x.sz ≤ (cntG (isPoolV x.nm) S.srv : Int)
      · rw [if_pos h1, if_pos h1]; rfl
      · rw [if_neg h1, if_neg h1]
        by_cases h2 : (S.srv.length : Int) < S.bud
        · rw [if_pos h2, if_pos h2, open_sh, e3]; rfl
        · rw [if_neg h2, if_neg h2]
          cases hs : S.srv.find? (isCliV 0) with
          | none => rfl
          | some s =>
            simp only [Option.map_some]
            by_cases h3 : S.bud < (S.srv.length : Int)
            · rw [if_pos h3, if_pos h3]; rfl
            · rw [if_neg h3, if_neg h3]
              show some (cOpen (cShut (shS d S) (s.id + d)) (op + d) x c.client, op + d + 1) = _
              rw [shut_sh, open_sh, e3]; rfl
theorem first_sh (d : Int) (S : Sta) (op : Int) : ∀ l : List Wtr, cFirst (shS d S) (op + d) l = (cFirst S op l).map (shP d)
  | [] => rfl
  | c :: r => by
    unfold cFirst
    rw [give_sh]
    cases cGive S op c with
    | some y => rfl
    | none => exact first_sh d S op r
theorem serve_sh (d : Int) : ∀ (f : Nat) (S : Sta) (op : Int), cServe f (shS d S) (op + d) = shP d (cServe f S op)
  | 0, _, _ => rfl
  | f + 1, S, op => by
    unfold cServe
    have e : (shS d S).wts = S.wts := rfl
    rw [e, first_sh]
    cases cFirst S op S.wts with
    | none => rfl
    | some y => exact serve_sh d f y.1 y.2
structure Alike (d : Int) (r' r : Res) : Prop where
  S : r'.S = shS d r.S
  op : r'.op = r.op + d
  err : r'.err = r.err
  id : (r.id = 0 ∧ r'.id = 0) ∨ (1 ≤ r.id ∧ r'.id = r.id + d)
theorem ask_sh {d : Int} {S : Sta} {op : Int} (hg : Good S op) (c : Int) (nm : ByteArray) : Alike d (cAsk (shS d S) (op + d) c nm) (cAsk S op c nm) := by
  have hI := (good_ask hg c nm).1.fine.inv
  unfold cAsk at hI ⊢
  have e1 : (shS d S).srv = S.srv.map (sh d) := rfl
  have e2 : (shS d S).wts = S.wts := rfl
  have e3 : (shS d S).pools = S.pools := rfl
  by_cases h1 : okCli c = false
  · rw [if_pos h1, if_pos h1]; exact ⟨rfl, rfl, rfl, .inl ⟨rfl, rfl⟩⟩
  · rw [if_neg h1] at hI
    rw [if_neg h1, if_neg h1, e1, e2, e3, some_sh (p := isCliV c) (fun _ => rfl)]
    by_cases h2 : ((S.srv.find? (isCliV c)).isSome || (S.wts.find? (isCliW c)).isSome) = true
    · rw [if_pos h2, if_pos h2]; exact ⟨rfl, rfl, rfl, .inl ⟨rfl, rfl⟩⟩
    · rw [if_neg h2] at hI
      rw [if_neg h2, if_neg h2]
      cases hx : S.pools.find? (isNameP nm) with
      | none => exact ⟨rfl, rfl, rfl, .inl ⟨rfl, rfl⟩⟩
      | some x =>
        rw [hx] at hI
        simp only at hI ⊢
        have ea : cAsked (shS d S) (op + d) c x.nm = shP d (cAsked S op c x.nm) := by
          unfold cAsked
          have ej : joined (shS d S) c x.nm = shS d (joined S c x.nm) := rfl
          rw [ej, e2, serve_sh]
        rw [ea]
        have e4 : (shP d (cAsked S op c x.nm)).1.srv = (cAsked S op c x.nm).1.srv.map (sh d) := rfl
        rw [e4, find_sh (p := isCliV c) (fun _ => rfl)]
        cases hf : (cAsked S op c x.nm).1.srv.find? (isCliV c) with
        | some s =>
          rw [hf] at hI
          simp only at hI
          have := hI.low s (List.mem_of_find?_eq_some hf)
          exact ⟨rfl, rfl, rfl, .inr ⟨this.1, rfl⟩⟩
        | none =>
          simp only [Option.map_none]
          have e5 : (shP d (cAsked S op c x.nm)).1.wts = (cAsked S op c x.nm).1.wts := rfl
          rw [e5]
          split
          · exact ⟨rfl, rfl, rfl, .inl ⟨rfl, rfl⟩⟩
          · exact ⟨rfl, rfl, rfl, .inl ⟨rfl, rfl⟩⟩
theorem leave_sh (d : Int) (S : Sta) (op c : Int) : Alike d (cLeave (shS d S) (op + d) c) (cLeave S op c) := by
  unfold cLeave
  have e2 : (shS d S).wts = S.wts := rfl
  rw [e2]
  split
  · exact ⟨rfl, rfl, rfl, .inl ⟨rfl, rfl⟩⟩
  · split
    · exact ⟨rfl, rfl, rfl, .inl ⟨rfl, rfl⟩⟩
    · exact ⟨rfl, rfl, rfl, .inl ⟨rfl, rfl⟩⟩
theorem crash_sh (d : Int) (S : Sta) (op a : Int) : Alike d (cCrash (shS d S) (op + d) (a + d)) (cCrash S op a) := by
  unfold cCrash
  have e1 : (shS d S).srv = S.srv.map (sh d) := rfl
  have e2 : (shS d S).wts = S.wts := rfl
  have e3 : ((S.srv.map (sh d)).find? (fun x => x.id == a + d)).isSome = (S.srv.find? (fun x => x.id == a)).isSome := by
    rw [List.find?_map, Option.isSome_map]
    congr 2
    funext x
    show (x.id + d == a + d) = (x.id == a)
    rw [Bool.eq_iff_iff, beq_iff_eq, beq_iff_eq]
    omega
  rw [e1, e2, e3]
  split
  · exact ⟨rfl, rfl, rfl, .inl ⟨rfl, rfl⟩⟩
  · rw [shut_sh, serve_sh]
    exact ⟨rfl, rfl, rfl, .inl ⟨rfl, rfl⟩⟩
theorem crash_nil {S : Sta} {op : Int} (h : Inv S op) : cCrash S op 0 = ⟨S, op, 0, 15⟩ := by
  unfold cCrash
  rw [if_pos]
  cases hf : S.srv.find? (fun x => x.id == 0) with
  | none => rfl
  | some x =>
    have h1 := h.low x (List.mem_of_find?_eq_some hf)
    have h3 := List.find?_some hf
    have h2 : x.id = 0 := eq_of_beq h3
    omega
theorem crash_zero {d : Int} {S : Sta} {op : Int} (h : Inv S op) (h' : Inv (shS d S) (op + d)) : Alike d (cCrash (shS d S) (op + d) 0) (cCrash S op 0) := by
  rw [crash_nil h, crash_nil h']
  exact ⟨rfl, rfl, rfl, .inl ⟨rfl, rfl⟩⟩
theorem sur_sh (d : Int) (S : Sta) (s : Srv) : isSur (shS d S) (sh d s) = isSur S s := by
  unfold isSur
  have e1 : (shS d S).srv = S.srv.map (sh d) := rfl
  have e2 : (shS d S).pools = S.pools := rfl
  have e3 : (shS d S).bud = S.bud := rfl
  have e4 : (sh d s).pool = s.pool := rfl
  have e5 : (sh d s).far = s.far := rfl
  rw [e1, e2, e3, e4, e5, cnt_sh (p := isPoolV s.pool) (fun _ => rfl), List.length_map]
theorem done_sh (d : Int) (S : Sta) (op c : Int) : Alike d (cDone (shS d S) (op + d) c) (cDone S op c) := by
  unfold cDone
  have e1 : (shS d S).srv = S.srv.map (sh d) := rfl
  have e2 : (shS d S).wts = S.wts := rfl
  rw [e1, e2, find_sh (p := isCliV c) (fun _ => rfl)]
  split
  · exact ⟨rfl, rfl, rfl, .inl ⟨rfl, rfl⟩⟩
  · cases hf : S.srv.find? (isCliV c) with
    | none => exact ⟨rfl, rfl, rfl, .inl ⟨rfl, rfl⟩⟩
    | some s =>
      simp only [Option.map_some]
      have e3 : cHand (shS d S) (sh d s).id 0 = shS d (cHand S s.id 0) := hand_sh d S s.id 0
      rw [e3, sur_sh]
      by_cases hu : isSur (cHand S s.id 0) s = true
      · rw [if_pos hu, if_pos hu]
        have e4 : cShut (shS d (cHand S s.id 0)) (sh d s).id = shS d (cShut (cHand S s.id 0) s.id) := shut_sh d _ s.id
        rw [e4, serve_sh]
        exact ⟨rfl, rfl, rfl, .inl ⟨rfl, rfl⟩⟩
      · rw [if_neg hu, if_neg hu, serve_sh]
        exact ⟨rfl, rfl, rfl, .inl ⟨rfl, rfl⟩⟩
theorem step_sh {A B : Int × List Pl} {kd a a' p d : Int} {S S' T T' : Sta} {X X' Y Y' : Aux} {n er m f : Int} (hT : Good T Y.op) (hS : Good S X.op) (e : S = shS d T) (eo : X.op = Y.op + d) (hk : 1 ≤ kd ∧ kd ≤ 4)
    (ha : (kd ≠ 4 ∧ a' = a) ∨ (kd = 4 ∧ ((a = 0 ∧ a' = 0) ∨ a' = a + d)))
    (h1 : StepR A B kd a' p S X S' X' n er) (h2 : StepR A B kd a p T Y T' Y' m f) : S' = shS d T' ∧ X'.op = Y'.op + d ∧ er = f ∧ ((m = 0 ∧ n = 0) ∨ (1 ≤ m ∧ n = m + d)) := by
  subst e
  have hfin : ∀ (r' r : Res), Alike d r' r → S' = r'.S → X' = { X with op := r'.op } → er = (r'.err : Int) → T' = r.S → Y' = { Y with op := r.op } → f = (r.err : Int) → ((m = 0 ∧ n = 0) ∨ (1 ≤ m ∧ n = m + d)) → S' = shS d T' ∧ X'.op = Y'.op + d ∧ er = f ∧ ((m = 0 ∧ n = 0) ∨ (1 ≤ m ∧ n = m + d)) := by
    intro r' r h k1 k2 k3 k4 k5 k6 k7
    subst k1 k2 k3 k4 k5 k6
    exact ⟨h.S, h.op, by rw [h.err], k7⟩
  rcases h1 with ⟨k1, u1, u2, u3, u4⟩ | ⟨k1, u1, u2, u3, u4⟩ | ⟨k1, u1, u2, u3, u4⟩ | ⟨k1, u1, u2, u3, u4⟩ | ⟨k1, _⟩ | ⟨k1, _⟩ | ⟨k1, _⟩ | ⟨k1, _⟩
  · rcases h2 with ⟨q1, v1, v2, v3, v4⟩ | ⟨q1, _⟩ | ⟨q1, _⟩ | ⟨q1, _⟩ | ⟨q1, _⟩ | ⟨q1, _⟩ | ⟨q1, _⟩ | ⟨q1, _⟩
    · have ea : a' = a := by omega
      subst ea
      rw [eo] at u1 u2 u3 u4
      have h := ask_sh (d := d) hT a' (gNm A.2 B.2 p)
      exact hfin _ _ h u1 u2 u4 v1 v2 v4 (by rw [u3, v3]; exact h.id)
    all_goals omega
  · rcases h2 with ⟨q1, _⟩ | ⟨q1, v1, v2, v3, v4⟩ | ⟨q1, _⟩ | ⟨q1, _⟩ | ⟨q1, _⟩ | ⟨q1, _⟩ | ⟨q1, _⟩ | ⟨q1, _⟩
    · omega
    · have ea : a' = a := by omega
      subst ea
      rw [eo] at u1 u2 u4
      exact hfin _ _ (done_sh d T Y.op a') u1 u2 u4 v1 v2 v4 (.inl ⟨v3, u3⟩)
    all_goals omega
  · rcases h2 with ⟨q1, _⟩ | ⟨q1, _⟩ | ⟨q1, v1, v2, v3, v4⟩ | ⟨q1, _⟩ | ⟨q1, _⟩ | ⟨q1, _⟩ | ⟨q1, _⟩ | ⟨q1, _⟩
    · omega
    · omega
    · have ea : a' = a := by omega
      subst ea
      rw [eo] at u1 u2 u4
      exact hfin _ _ (leave_sh d T Y.op a') u1 u2 u4 v1 v2 v4 (.inl ⟨v3, u3⟩)
    all_goals omega
  · rcases h2 with ⟨q1, _⟩ | ⟨q1, _⟩ | ⟨q1, _⟩ | ⟨q1, v1, v2, v3, v4⟩ | ⟨q1, _⟩ | ⟨q1, _⟩ | ⟨q1, _⟩ | ⟨q1, _⟩
    · omega
    · omega
    · omega
    · have hI' := hS.fine.inv
      rw [eo] at u1 u2 u4 hI'
      rcases ha with ⟨h0, _⟩ | ⟨_, ⟨rfl, rfl⟩ | rfl⟩
      · omega
      · exact hfin _ _ (crash_zero hT.fine.inv hI') u1 u2 u4 v1 v2 v4 (.inl ⟨v3, u3⟩)
      · exact hfin _ _ (crash_sh d T Y.op a) u1 u2 u4 v1 v2 v4 (.inl ⟨v3, u3⟩)
    all_goals omega
  all_goals omega
end Lw
end Go.Proofs.YtohbonfngeblkaaGreat
namespace Go.Proofs.YtohbonfngeblkaaGreat
open Go.RowKit
namespace Lw
open Co
def dropS (S : Sta) (i : Nat) : Sta := { S with srv := S.srv.drop i }
theorem filter_all {l : List Srv} {id : Int} (h : ∀ x ∈ l, x.id ≠ id) : l.filter (fun x => !decide (x.id = id)) = l := by
  rw [List.filter_eq_self]
  intro x hx
  simp [h x hx]
theorem crash_drop {S : Sta} {op : Int} (h : Inv S op) (hw : S.wts = []) {i : Nat} {x : Srv} (hx : S.srv[i]? = some x) : cCrash (dropS S i) op x.id = ⟨dropS S (i + 1), op, 0, 0⟩ := by
  obtain ⟨hi, rfl⟩ := List.getElem?_eq_some_iff.1 hx
  have e : S.srv.drop i = S.srv[i] :: S.srv.drop (i + 1) := List.drop_eq_getElem_cons hi
  have hp := List.Pairwise.drop (i := i) h.ids
  rw [e] at hp
  have hne : ∀ y ∈ S.srv.drop (i + 1), y.id ≠ S.srv[i].id := fun y hy => by have := (List.pairwise_cons.1 hp).1 y hy; omega
  unfold cCrash
  have e1 : (dropS S i).srv = S.srv[i] :: S.srv.drop (i + 1) := e
  have e2 : (dropS S i).wts = [] := hw
  have e3 : cShut (dropS S i) S.srv[i].id = dropS S (i + 1) := by
    unfold cShut
    rw [e1, List.filter_cons, if_neg (by simp), filter_all hne]
    rfl
  rw [e1, e2, e3, List.find?_cons_of_pos (by simp), if_neg (by simp)]
  rfl
theorem drop_end {S : Sta} {i : Nat} (h : S.srv.length ≤ i) : (dropS S i).srv = [] := List.drop_eq_nil_of_le h
theorem drop_zero (S : Sta) : dropS S 0 = S := rfl
theorem empty_step {A B : Int × List Pl} {kd a p : Int} {T T' : Sta} {Y Y' : Aux} {m f : Int} (hg : Good T Y.op) (h0 : T.srv = []) (hk : 1 ≤ kd ∧ kd ≤ 3) (h : StepR A B kd a p T Y T' Y' m f) (hm : m = 0) : T'.srv = [] := by
  rcases h with ⟨k, e1, e2, e3, _⟩ | ⟨k, e1, _⟩ | ⟨k, e1, _⟩ | ⟨k, _⟩ | ⟨k, _⟩ | ⟨k, _⟩ | ⟨k, _⟩ | ⟨k, _⟩
  · have hI := (good_ask hg a (gNm A.2 B.2 p)).1.fine.inv
    rcases ask_cases hg a (gNm A.2 B.2 p) with ⟨h1, _⟩ | ⟨_, _, _, _, _, x, _, h1, h2, _, ⟨s, hs, _, h3⟩ | ⟨h3, _⟩⟩
    · rw [e1, h1]; exact h0
    · exfalso
      rw [h1] at hI
      have := hI.low s hs
      omega
    · rw [e1, h1, h3]; exact h0
  · rw [e1]
    unfold cDone
    rw [h0]
    split
    · exact h0
    · exact h0
  · rw [e1, leave_srv]; exact h0
  all_goals omega
theorem step_id {A B : Int × List Pl} {kd a p : Int} {S S' : Sta} {X X' : Aux} {n er : Int} (hg : Good S X.op) (hk : 1 ≤ kd ∧ kd ≤ 4) (h : StepR A B kd a p S X S' X' n er) : n ≤ X'.op ∨ n = 0 := by
  rcases h with ⟨k, e1, e2, e3, _⟩ | ⟨k, _, _, e3, _⟩ | ⟨k, _, _, e3, _⟩ | ⟨k, _, _, e3, _⟩ | ⟨k, _⟩ | ⟨k, _⟩ | ⟨k, _⟩ | ⟨k, _⟩
  · have hI := (good_ask hg a (gNm A.2 B.2 p)).1.fine.inv
    rcases ask_cases hg a (gNm A.2 B.2 p) with ⟨_, _, h1, _⟩ | ⟨_, _, _, _, _, x, _, h1, h2, _, ⟨s, hs, _, h3⟩ | ⟨_, _, h3, _⟩⟩
    · right; omega
    · left
      rw [h1] at hI
      have := hI.low s hs
      rw [e2]
      show n ≤ (cAsk S X.op a (gNm A.2 B.2 p)).op
      omega
    · right; omega
  · exact .inr e3
  · exact .inr e3
  · exact .inr e3
  all_goals omega
theorem run_new {b : Int} {ps : List Pl} (h : Okt b ps) : Run1 (sta0 (b, ps)) ⟨0, 0, []⟩ :=
  ⟨good0 _, ⟨(b, ps), h, h, fun _ => ⟨rfl, rfl, rfl⟩, fun _ => ⟨trivial, rfl⟩, fun h => by simp at h, fun h => absurd rfl h, by simp, fun h => by simp at h⟩, by simp, by simp⟩
def AimA (kd a a' d : Int) : Prop := (kd ≠ 4 ∧ a' = a) ∨ (kd = 4 ∧ ((a = 0 ∧ a' = 0) ∨ a' = a + d))
def MoreI (mv d : Int) (T : Sta) : Prop := mv = d ∨ (mv = -1 ∧ T.srv = [])
structure TwoI (W w : World) (gg gp : Nat) (S : Sta) (X : Aux) (Fp : Nat → Prop) (gh hp : Nat) (T : Sta) (Y : Aux) (Fq : Nat → Prop) (A B : Int × List Pl) (ao : Option Addr) (ac : Nat) (bo : Option Addr) (bc : Nat) (gs : Nat) (U : Sta) (v : Stv) (d : Int) (k l : Nat) : Prop where
  one : ArrI W w gg gp S X Fp A B ao ac bo bc k
  two : ArrI W w gh hp T Y Fq A B ao ac bo bc l
  far : ∀ y, Fp y → ¬ Fq y
  h1 : ¬ Fp gh
  h2 : ¬ Fq gg
  box : Snap w gs U v (fun y => Fp y ∨ Fq y)
  n1 : gg ≠ gs
  n2 : gh ≠ gs
  na : ∀ x, (Value.slice ao A.2.length ac).ownBlock = some x → x ≠ gs
  nb : ∀ x, (Value.slice bo B.2.length bc).ownBlock = some x → x ≠ gs
  s0 : W.heap.size ≤ gs
  sim : S = shS d T
  op : X.op = Y.op + d
theorem GameAt.keep {w w' : World} {gg gp : Nat} {S : Sta} {X : Aux} {Fp G : Nat → Prop} {A B : Int × List Pl} {ao : Option Addr} {ac : Nat} {bo : Option Addr} {bc : Nat} (h : GameAt w gg gp S X Fp A B ao ac bo bc) (hch : Chg G w w') (hF : ∀ y, Fp y → ¬ G y) (hg : ¬ G gg) (ha : ∀ g, (Value.slice ao A.2.length ac).ownBlock = some g → ¬ G g) (hb : ∀ g, (Value.slice bo B.2.length bc).ownBlock = some g → ¬ G g) : GameAt w' gg gp S X Fp A B ao ac bo bc :=
  ⟨(hch.block gg h.lt hg).trans h.box, h.desk.keep hch (fun x hx => hF x hx), grow_keep h.a hch.size (fun g hgb => hch.block g (h.la g hgb).1 (ha g hgb)), grow_keep h.b hch.size (fun g hgb => hch.block g (h.lb g hgb).1 (hb g hgb)), fun g hgb => ⟨Nat.lt_of_lt_of_le (h.la g hgb).1 hch.size, (h.la g hgb).2⟩, fun g hgb => ⟨Nat.lt_of_lt_of_le (h.lb g hgb).1 hch.size, (h.lb g hgb).2⟩, h.dg⟩
theorem TwoI.below {W w w' : World} {gg gp : Nat} {S : Sta} {X : Aux} {Fp : Nat → Prop} {gh hp : Nat} {T : Sta} {Y : Aux} {Fq : Nat → Prop} {A B : Int × List Pl} {ao : Option Addr} {ac : Nat} {bo : Option Addr} {bc : Nat} {gs : Nat} {U : Sta} {v : Stv} {d : Int} {k l : Nat} (h : TwoI W w gg gp S X Fp gh hp T Y Fq A B ao ac bo bc gs U v d k l) (hb : Below w.heap.size w w') : TwoI W w' gg gp S X Fp gh hp T Y Fq A B ao ac bo bc gs U v d k l :=
  ⟨h.one.below hb, h.two.below hb, h.far, h.h1, h.h2, h.box.below hb, h.n1, h.n2, h.na, h.nb, h.s0, h.sim, h.op⟩
theorem TwoI.more {W w : World} {gg gp : Nat} {S : Sta} {X : Aux} {Fp : Nat → Prop} {gh hp : Nat} {T : Sta} {Y : Aux} {Fq : Nat → Prop} {A B : Int × List Pl} {ao : Option Addr} {ac : Nat} {bo : Option Addr} {bc : Nat} {gs : Nat} {U : Sta} {v : Stv} {d : Int} {k l : Nat} (h : TwoI W w gg gp S X Fp gh hp T Y Fq A B ao ac bo bc gs U v d k l) : TwoI W w gg gp S X Fp gh hp T Y Fq A B ao ac bo bc gs U v d (k + 1) (l + 1) :=
  ⟨⟨h.one.game, h.one.run, by have := h.one.pot; omega, h.one.fp, h.one.bel⟩, ⟨h.two.game, h.two.run, by have := h.two.pot; omega, h.two.fp, h.two.bel⟩, h.far, h.h1, h.h2, h.box, h.n1, h.n2, h.na, h.nb, h.s0, h.sim, h.op⟩
theorem TwoI.both {W w w1 w2 : World} {gg gp : Nat} {S : Sta} {X : Aux} {Fp : Nat → Prop} {gh hp : Nat} {T : Sta} {Y : Aux} {Fq : Nat → Prop} {A B : Int × List Pl} {ao : Option Addr} {ac : Nat} {bo : Option Addr} {bc : Nat} {gs : Nat} {U : Sta} {v : Stv} {d : Int} {k l : Nat} (h : TwoI W w gg gp S X Fp gh hp T Y Fq A B ao ac bo bc gs U v d k l)
    {S' : Sta} {X' : Aux} {Fp' : Nat → Prop} (g1 : GameAt w1 gg gp S' X' Fp' A B ao ac bo bc) (f1 : ∀ y, Fp' y → Fp y ∨ w.heap.size ≤ y) (c1 : Chg Fp w w1) (r1 : Run1 S' X') (p1 : pot (S', X'.op) ≤ 2 + (k + 1 : Nat)) :
    (ArrI W w1 gg gp S' X' Fp' A B ao ac bo bc (k + 1) ∧ ArrI W w1 gh hp T Y Fq A B ao ac bo bc l) ∧
    ∀ {T' : Sta} {Y' : Aux} {Fq' : Nat → Prop}, GameAt w2 gh hp T' Y' Fq' A B ao ac bo bc → (∀ y, Fq' y → Fq y ∨ w1.heap.size ≤ y) → Chg Fq w1 w2 → Run1 T' Y' → pot (T', Y'.op) ≤ 2 + (l + 1 : Nat) → S' = shS d T' → X'.op = Y'.op + d →
      TwoI W w2 gg gp S' X' Fp' gh hp T' Y' Fq' A B ao ac bo bc gs U v d (k + 1) (l + 1) := by
  have q1 := h.one.chg g1 f1 c1 r1 p1
  have g2 : GameAt w1 gh hp T Y Fq A B ao ac bo bc := h.two.game.keep c1 (fun y hy hf => h.far y hf hy) h.h1 (fun g hg => (h.one.game.la g hg).2) (fun g hg => (h.one.game.lb g hg).2)
  have q2 : ArrI W w1 gh hp T Y Fq A B ao ac bo bc l := ⟨g2, h.two.run, h.two.pot, h.two.fp, q1.bel⟩
  have hfar1 : ∀ y, Fp' y → ¬ Fq y := fun y hy hq => by
    rcases f1 y hy with h1 | h1
    · exact h.far y h1 hq
    · have := h.two.game.desk.lt y hq; omega
  have hgh1 : ¬ Fp' gh := fun hf => by
    rcases f1 gh hf with h1 | h1
    · exact h.h1 h1
    · have := h.two.game.lt; omega
  have b1 : Snap w1 gs U v (fun y => Fp' y ∨ Fq y) := h.box.chg c1 (fun hf => h.box.dgs (.inl hf)) (fun g hg hf => (h.box.blk g hg).2.1 (.inl hf)) (fun y hy => by
    rcases hy with h1 | h1
    · rcases f1 y h1 with h2 | h2
      · exact .inl (.inl h2)
      · exact .inr h2
    · exact .inl (.inr h1))
  refine ⟨⟨q1, q2⟩, fun {T' Y' Fq'} g3 f2 c2 r2 p2 es eo => ?_⟩
  have q3 := q2.chg g3 f2 c2 r2 p2
  have g4 : GameAt w2 gg gp S' X' Fp' A B ao ac bo bc := g1.keep c2 hfar1 h.h2 (fun g hg => (g2.la g hg).2) (fun g hg => (g2.lb g hg).2)
  have q4 : ArrI W w2 gg gp S' X' Fp' A B ao ac bo bc (k + 1) := ⟨g4, r1, p1, q1.fp, q3.bel⟩
  refine ⟨q4, q3, fun y hy hq => ?_, hgh1, fun hf => ?_, ?_, h.n1, h.n2, h.na, h.nb, h.s0, es, eo⟩
  · rcases f2 y hq with h1 | h1
    · exact hfar1 y hy h1
    · have := g1.desk.lt y hy; omega
  · rcases f2 gg hf with h1 | h1
    · exact h.h2 h1
    · have := g1.lt; omega
  · exact b1.chg c2 (fun hf => b1.dgs (.inr hf)) (fun g hg hf => (b1.blk g hg).2.1 (.inr hf)) (fun y hy => by
      rcases hy with h1 | h1
      · exact .inl (.inl h1)
      · rcases f2 y h1 with h2 | h2
        · exact .inl (.inr h2)
        · exact .inr h2)
end Lw
end Go.Proofs.YtohbonfngeblkaaGreat
