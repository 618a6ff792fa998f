import Derived.Test.YtmmmjpkhnbfnbaaGreatMgAi
namespace Go.Proofs.YtmmmjpkhnbfnbaaGreat
open Go.RowKit
namespace Co

theorem ba_of {s : ByteArray} {l : List UInt8} (h : (s.toList == l) = true) : s = ⟨l.toArray⟩ := by
  apply ba_ext
  rw [← ByteArray.toList_eq]
  simpa using h
theorem formed_any (fs : List ByteArray) (pl : Int) (ao : Option Addr) (cap n : Nat) (w : World) (hr : RowAt w (.slice ao n cap) n (strs fs)) (hn : fs.length = n) (hn1 : n ≤ 1001) (hn0 : 0 < n) (hsm : ∀ p ∈ fs, p.size ≤ 1000) :
    Calls Tryz.prog 98 #[.slice ao n cap, .int .i64 pl] w fun e w' => RMade (parseF fs) pl w w' e := by
  match fs, hr, hn, hsm with
  | [], _, hn, _ => simp at hn; omega
  | wd :: r, hr, hn, hsm =>
    cases hB : wd.toList == [98, 117, 100, 103, 101, 116]
    · by_cases hbad : ((wd.toList == [98, 97, 115, 101]) = false ∧ (wd.toList == [112, 111, 111, 108]) = false) ∨ n < 2
      · refine formed_bad wd r pl ao cap n w hr hn hn1 hB hbad _ ?_
        rw [parseF, hB]
        simp only [Bool.false_eq_true, if_false]
        rcases hbad with ⟨h1, h2⟩ | h
        · rw [h1, h2]; rfl
        · obtain rfl : r = [] := List.eq_nil_of_length_eq_zero (by simp at hn; omega)
          split
          · rfl
          · split <;> rfl
      · match r, hr, hn, hsm with
        | [], _, hn, _ => exact absurd (.inr (by simp at hn; omega)) hbad
        | nm :: r2, hr, hn, hsm =>
          cases hA : wd.toList == [98, 97, 115, 101]
          · cases hP : wd.toList == [112, 111, 111, 108]
            · exact absurd (.inl ⟨hA, hP⟩) hbad
            · have e : parseF (wd :: nm :: r2) = namedF 3 (nm :: r2) := by rw [parseF, hB, hA, hP]; rfl
              rw [e]
              exact formed_nm 3 wd nm r2 pl ao cap n w hr hn hn1 (fun p hp => hsm p (List.mem_cons_of_mem _ hp)) hB false true hA hP rfl (ba_of hP) (by omega)
          · have e : parseF (wd :: nm :: r2) = namedF 2 (nm :: r2) := by rw [parseF, hB, hA]; rfl
            rw [e]
            exact formed_nm 2 wd nm r2 pl ao cap n w hr hn hn1 (fun p hp => hsm p (List.mem_cons_of_mem _ hp)) hB true _ hA rfl rfl (ba_of hA) (by omega)
    · have e : parseF (wd :: r) = budF r := by rw [parseF, hB]; rfl
      rw [e]
      obtain rfl : wd = sBudget := ba_of hB
      exact formed_bud r pl ao cap n w hr hn hn1 (fun p hp => hsm p (List.mem_cons_of_mem _ hp))

theorem setsF_keys : ∀ (l : List ByteArray) (ss : List (Nat × Nat)), setsF l = some ss → ∀ p ∈ ss, p.1 ≤ 2
  | [], ss, h => by cases h; simp
  | [_], ss, h => by cases h
  | k :: n :: r, ss, h => by
    rw [setsF] at h
    split at h
    · rename_i a b l ha hb hl
      cases h
      intro p hp
      rcases List.mem_cons.1 hp with h | h
      · subst h; exact (keyF_word ha).2
      · exact setsF_keys r l hl p h
    · cases h
theorem namedF_ok {kind : Nat} {fs : List ByteArray} {l : Ln} (hk : kind = 2 ∨ kind = 3) (h : namedF kind fs = some l) : OkL l := by
  have key : ∀ {fs2 : List ByteArray} {nm fr : ByteArray}, isNm nm = true → (setsF fs2).map (fun ss => (⟨kind, nm, fr, ss, 0⟩ : Ln)) = some l → OkL l := by
    intro fs2 nm fr hnm h
    cases hs : setsF fs2 with
    | none => rw [hs] at h; cases h
    | some ss =>
      rw [hs] at h
      simp only [Option.map_some, Option.some.injEq] at h
      subst h
      exact .inr ⟨hk, hnm, setsF_keys _ _ hs⟩
  match fs, h with
  | [], h => cases h
  | nm :: r, h =>
    cases hf : fromB r
    · rw [named_rest hf] at h
      split at h
      · rename_i hnm; exact key hnm h
      · cases h
    · match r, hf, h with
      | [], hf, _ => cases hf
      | [f], hf, h => rw [named_from0 hf] at h; cases h
      | f :: b :: r3, hf, h =>
        rw [named_from hf] at h
        split at h
        · rename_i hnm
          simp only [Bool.and_eq_true] at hnm
          exact key hnm.1 h
        · cases h
theorem parseF_ok {fs : List ByteArray} {l : Ln} (h : parseF fs = some l) : OkL l := by
  match fs, h with
  | [], h => cases h
  | f0 :: rest, h =>
    rw [parseF] at h
    split at h
    · match rest, h with
      | [], h => cases h
      | [a], h =>
        rw [budF] at h
        cases hn : numF a with
        | none => rw [hn] at h; cases h
        | some x =>
          rw [hn] at h
          simp only [Option.map_some, Option.some.injEq] at h
          subst h
          exact .inl ⟨rfl, rfl, rfl, _, rfl⟩
      | a :: b :: c, h => cases h
    · split at h
      · exact namedF_ok (.inl rfl) h
      · split at h
        · exact namedF_ok (.inr rfl) h
        · cases h

theorem wrong_any (l : Ln) (hok : OkL l) (hm1 : l.sets.length ≤ 1001) (ko : Option Addr) (kc : Nat) (vo : Option Addr) (vc : Nat) (pl : Int) (ao : Option Addr) (cap n : Nat) (ls : List RL) (w : World) (hl : RLinesAt w (.slice ao n cap) ls) (hn : ls.length = n) (hn1 : n ≤ 1001)
    (hr : RowAt w (.slice ko (keysOf l).length kc) (keysOf l).length (ints (keysOf l))) (hr2 : RowAt w (.slice vo l.sets.length vc) l.sets.length (ints (valsOf l))) :
    Calls Tryz.prog 99 #[.slice ao n cap, rlA (kwK l.kind) l.name l.frm ko (keysOf l).length kc vo l.sets.length vc pl, .bool true] w fun e w' => e = .returned (.int .i64 (faultC (bareR ls) l)) ∧ Below w.heap.size w w' := by
  rcases hok with ⟨hk, hnm, hfr, x, hs⟩ | ⟨hk, hnm, hkeys⟩
  · obtain ⟨kind, name, frm, ss, place⟩ := l
    simp only at hk hnm hfr hs
    subst hk hs
    exact wrong_bud x name frm ko kc vo vc pl place ao cap n ls w hl hn hn1 hr2
  · have hkl : keysOf l = l.sets.map (·.1) := by rw [keysOf, if_neg (by omega)]
    rw [hkl, List.length_map] at hr
    rw [hkl, List.length_map]
    rcases hk with hk | hk
    · rw [hk]; exact wrong_2 l hk hkeys _ rfl hm1 ko kc vo vc pl ao cap n ls w hl hn hn1 hr hr2
    · rw [hk]; exact wrong_3 l hk hkeys _ rfl hm1 ko kc vo vc pl ao cap n ls w hl hn hn1 hr hr2

/-- the lists of the lines lie apart from the lines' own row -/
def RSv (w : World) (p : RL) : Prop := Lists w p ∧ (∀ so n sc, p.2.1 = .slice so n sc → FrI w so) ∧ (∀ so n sc, p.2.2 = .slice so n sc → FrI w so)
theorem RSv.nx {w w' : World} {p : RL} (h : RSv w p) (hb : Below w.heap.size w w') : RSv w' p := ⟨h.1.nx hb, fun so n sc e => (h.2.1 so n sc e).nx hb, fun so n sc e => (h.2.2 so n sc e).nx hb⟩
theorem FrI.ne {w : World} {so : Option Addr} (h : FrI w so) {row : Option Nat} (hrow : ∀ g, row = some g → ∃ cur, w.heap[g]? = some (.cells cur 122 (0, 0))) : ∀ b off, so = some ⟨b, off, none⟩ → row ≠ some b := by
  intro b off e e3
  obtain ⟨cur, h2⟩ := h b off e
  obtain ⟨cur', h3⟩ := hrow b e3
  rw [h2] at h3
  simp at h3
theorem FrI.grown {w w' : World} {so : Option Addr} {row : Option Nat} (h : FrI w so) (hg : w.grownBy w' row) (hrow : ∀ g, row = some g → ∃ cur, w.heap[g]? = some (.cells cur 122 (0, 0))) : FrI w' so := by
  intro b off e
  obtain ⟨cur, h2⟩ := h b off e
  exact ⟨cur, (hg.block b (Array.getElem?_eq_some_iff.1 h2).1 (fun e' => h.ne hrow b off e e'.symm)).trans h2⟩
theorem RSv.grown {w w' : World} {p : RL} {row : Option Nat} (h : RSv w p) (hg : w.grownBy w' row) (hrow : ∀ g, row = some g → ∃ cur, w.heap[g]? = some (.cells cur 122 (0, 0))) : RSv w' p := by
  refine ⟨⟨row_grown h.1.1 hg (fun so m sc b off e1 e2 => (h.2.1 so m sc e1).ne hrow b off e2), row_grown h.1.2 hg (fun so m sc b off e1 e2 => (h.2.2 so m sc e1).ne hrow b off e2)⟩, fun so n sc e => (h.2.1 so n sc e).grown hg hrow, fun so n sc e => (h.2.2 so n sc e).grown hg hrow⟩

/-- what read answers -/
def RRead (s : ByteArray) (w w' : World) (e : Ending) : Prop :=
  ((rd s).err ≠ 0 ∧ e = .returned (.tuple #[.slice none 0 0, .int .i64 (rd s).err, .int .i64 (rd s).at']) ∧ Below w.heap.size w w') ∨
  (∃ ls ao cap, (rd s).err = 0 ∧ (rd s).lines = bareR ls ∧ ls.length ≤ 1001 ∧ 0 < ls.length ∧ e = .returned (.tuple #[.slice ao ls.length cap, .int .i64 0, .int .i64 0]) ∧ RLinesAt w' (.slice ao ls.length cap) ls ∧ Below w.heap.size w w')
theorem info_rl : (Tryz.prog.info? 122).map (fun i => (i.zero, i.size, i.bytes)) = some (some (.agg #[.string ⟨#[]⟩, .string ⟨#[]⟩, .string ⟨#[]⟩, .slice none 0 0, .slice none 0 0, .int .i64 0]), 6, 104) := by kernel_rfl
theorem rdC_bad' {i : Nat} {acc : List Ln} {p : ByteArray} {r : List ByteArray} (h : ¬ (flds p).length = 0) (hb : parseF (flds p) = none) : rdC i acc (p :: r) = ⟨[], 2, i + 1⟩ := by
  rw [rdC, if_neg h, hb]
theorem rdC_bad2 {i : Nat} {acc : List Ln} {p : ByteArray} {r : List ByteArray} {l : Ln} (h : ¬ (flds p).length = 0) (hl : parseF (flds p) = some l) (hb : faultC acc l ≠ 0) : rdC i acc (p :: r) = ⟨[], faultC acc l, i + 1⟩ := by
  rw [rdC, if_neg h, hl]
  simp only
  rw [if_neg hb]
theorem rdC_good' {i : Nat} {acc : List Ln} {p : ByteArray} {r : List ByteArray} {l : Ln} (h : ¬ (flds p).length = 0) (hl : parseF (flds p) = some l) (hb : faultC acc l = 0) : rdC i acc (p :: r) = rdC (i + 1) (acc ++ [{ l with place := i + 1 }]) r := by
  rw [rdC, if_neg h, hl]
  simp only
  rw [if_pos hb]
end Co
end Go.Proofs.YtmmmjpkhnbfnbaaGreat
namespace Go.Proofs.YtmmmjpkhnbfnbaaGreat
open Go.RowKit
namespace Co

set_option maxRecDepth 20000 in
set_option maxHeartbeats 4000000 in
theorem read_any (s : ByteArray) (w : World) (hs : s.size ≤ 1000) :
    Calls Tryz.prog 59 #[.string s] w fun e w' => RRead s w w' e := by
  obtain ⟨t0, hi, hz0, hz1, hz2⟩ := info_parts info_rl
  go_enter Tryz.func59, Tryz.ntmps59
  go_wp2_with fail
  refine (rsplit_nl s _ hs).mono ?_; rintro e w1 ⟨pa, pc, rfl, hp, hb1⟩
  have hlen := pieces_len s 10
  have hsmall := pieces_small s 10
  obtain ⟨ps, hps⟩ : ∃ ps, pieces s 10 = ps := ⟨_, rfl⟩
  rw [hps] at hp hlen hsmall ⊢
  obtain ⟨n, hn⟩ : ∃ n, ps.length = n := ⟨_, rfl⟩
  rw [hn] at hp hlen ⊢
  have HP : Hid (RowAt w1 (.slice pa n pc) n (strs ps) ∧ ps.length = n ∧ pieces s 10 = ps ∧ ∀ p ∈ ps, p.size ≤ s.size) := ⟨hp, hn, hps, hsmall⟩
  have HB1 : Hid (Below w.heap.size w w1) := hb1
  clear hp hn hps hb1 hsmall
  go_wp2_with fail
  go_loopw [5, 7] (fun v i wr => ∃ (k m : Nat) (acc : List RL), k ≤ n ∧ i = .int .i64 k ∧ m ≤ k ∧ Hid (rd s = rdC k (bareR acc) (ps.drop k) ∧ acc.length = m ∧ ∀ p ∈ acc, RSv wr p) ∧ wr.ownsRow w1.heap.size 122 6 v m (flatR acc) ∧ Below w1.heap.size w1 wr) (fun _ i _ => n - (intOf i).toNat)
  case atStart => exact ⟨0, 0, [], Nat.zero_le _, rfl, Nat.le_refl _, ⟨by rw [rd, HP.out.2.2.1]; rfl, rfl, by simp⟩, World.ownsRow_nil _ _ _ _, Below.refl _ _⟩
  case round =>
    obtain ⟨k, m, acc, hk, rfl, hm, HS, hown, hbel⟩ := hrel
    obtain ⟨vo, vc, hv, _⟩ := own_row hown
    subst hv
    by_cases hlt : k < n
    · obtain ⟨p, hpk⟩ : ∃ p, ps[k]? = some p := ⟨_, List.getElem?_eq_getElem (by rw [HP.out.2.1]; exact hlt)⟩
      obtain ⟨bl, off, hpa, hbl, hc⟩ := (HP.out.1.nx hbel).at (strs_at hpk)
      subst hpa
      have hps2 : p.size ≤ 1000 := Nat.le_trans (HP.out.2.2.2 p (List.mem_of_getElem? hpk)) hs
      have HD : Hid (ps.drop k = p :: ps.drop (k + 1)) := drop_at hpk
      have hlti : (k : Int) < (n : Int) := by omega
      clear hpk
      go_wp2_with fail
      refine (rfields_any p _ hps2).mono ?_; rintro e w2 ⟨fo, fc, rfl, hf, hb2⟩
      have hfl := flds_len p
      have hfs := flds_small p
      obtain ⟨fs, hfe⟩ : ∃ fs, flds p = fs := ⟨_, rfl⟩
      rw [hfe] at hf hfl hfs ⊢
      obtain ⟨fn, hfn⟩ : ∃ fn, fs.length = fn := ⟨_, rfl⟩
      rw [hfn] at hf hfl ⊢
      have hown2 := own_below hown hb2
      have hbel2 := nx_trans hbel hb2
      have HF : Hid (RowAt w2 (.slice fo fn fc) fn (strs fs) ∧ fs.length = fn ∧ flds p = fs ∧ ∀ q ∈ fs, q.size ≤ p.size) := ⟨hf, hfn, hfe, hfs⟩
      have HSv : Hid (∀ p ∈ acc, RSv w2 p) := fun q hq => (HS.out.2.2 q hq).nx hb2
      clear hf hfn hfe hfs hown hbel hb2
      by_cases hf0 : fn = 0
      · have HF0 : Hid (fn = 0) := hf0
        have hf0b : ((fn : Int) == 0) = true := by rw [hf0]; rfl
        have hf0c : ¬ 0 < fn := by omega
        clear hf0
        go_wp2_with fail
        go_roundw
        case rel => exact ⟨k + 1, m, acc, by omega, by go_num, by omega, ⟨by rw [HS.out.1, HD.out, rdC_skip (by rw [HF.out.2.2.1, HF.out.2.1]; exact HF0.out)], HS.out.2.1, HSv.out⟩, hown2, hbel2⟩
        case measure => simp [intOf]; omega
      · have hf0b : ((fn : Int) == 0) = false := by simp; omega
        have HF0 : Hid (¬ (flds p).length = 0) := by show ¬ _; rw [HF.out.2.2.1, HF.out.2.1]; exact hf0
        have HFM := hideIt (formed_any fs ((k : Int) + 1) fo fc fn w2 HF.out.1 HF.out.2.1 (by omega) (by omega) (fun q hq => Nat.le_trans (HF.out.2.2.2 q hq) hps2))
        go_wp2_with fail
        refine HFM.out.mono ?_
        rintro e w3 (⟨hno, wd, nm, fr, ko, nk, kc, vo2, nv, vc2, pl, rfl, hb3⟩ | ⟨l, ko, kc, vo2, vc2, hl, rfl, hrk, hrv, hfk, hfv, hb3⟩)
        · have HX : Hid ((rd s).err = 2 ∧ (rd s).at' = k + 1 ∧ Below w.heap.size w (w3.alloc (bRL wd nm fr ko nk kc vo2 nv vc2 pl))) := by
            have e : rd s = ⟨[], 2, k + 1⟩ := by
              rw [HS.out.1, HD.out, rdC_bad' HF0.out (by rw [HF.out.2.2.1]; exact hno)]
            refine ⟨by rw [e], by rw [e], nx_trans (nx_trans HB1.out (nx_trans hbel2 hb3)) (nx_alloc _ _)⟩
          clear hown2 hbel2 hb3 hno
          go_wp2_with fail
          refine (wrong_no wd nm fr ko nk kc vo2 nv vc2 pl vo m vc _).mono ?_
          rintro e w4 ⟨rfl, hb4⟩
          have HB4 : Hid (Below w.heap.size w w4) := nx_trans HX.out.2.2 hb4
          clear hb4
          go_wp2_with fail
          go_ret3
          refine .inl ⟨by rw [HX.out.1]; decide, ?_, HB4.out⟩
          exact ret_sii (by rw [HX.out.1]; rfl) (by rw [HX.out.2.1]; omega) rfl
        · obtain ⟨nk, hnk⟩ : ∃ nk, (keysOf l).length = nk := ⟨_, rfl⟩
          obtain ⟨m5, hm5⟩ : ∃ m5, l.sets.length = m5 := ⟨_, rfl⟩
          obtain ⟨kw, hkw⟩ : ∃ kw, kwK l.kind = kw := ⟨_, rfl⟩
          have hok := parseF_ok hl
          have hlm : l.sets.length ≤ 1001 := Nat.le_trans (parseF_kind hl).2.2 (by rw [HF.out.2.1]; omega)
          obtain ⟨W4, hW4⟩ : ∃ W4, W4 = w3.alloc (bRL kw l.name l.frm ko nk kc vo2 m5 vc2 ((k : Int) + 1)) := ⟨_, rfl⟩
          have hb4 : Below w3.heap.size w3 W4 := by rw [hW4]; exact nx_alloc _ _
          have hown4 := own_below (own_below hown2 hb3) hb4
          have hbel4 := nx_trans (nx_trans hbel2 hb3) hb4
          have HV : Hid ((∀ p ∈ acc, RSv W4 p) ∧ RSv W4 ({ l with place := k + 1 }, .slice ko nk kc, .slice vo2 m5 vc2)) := by
            refine ⟨fun q hq => ((HSv.out q hq).nx hb3).nx hb4, ?_⟩
            refine RSv.nx ?_ hb4
            refine ⟨⟨?_, ?_⟩, ?_, ?_⟩
            · rw [← hnk]; exact hrk
            · rw [← hm5]; exact hrv
            · intro so n' sc e
              simp only [Value.slice.injEq] at e
              obtain ⟨rfl, _, _⟩ := e
              exact hfk
            · intro so n' sc e
              simp only [Value.slice.injEq] at e
              obtain ⟨rfl, _, _⟩ := e
              exact hfv
          have HWR := hideIt (wrong_any l hok hlm ko kc vo2 vc2 ((k : Int) + 1) vo vc m acc W4 ⟨by rw [HS.out.2.1]; exact own_row hown4, fun q hq => (HV.out.1 q hq).1⟩ HS.out.2.1 (by omega) (hrk.nx hb4) (hrv.nx hb4))
          rw [hkw, hnk, hm5] at HWR
          rw [hkw, hnk, hm5]
          have HKW := hideIt hkw
          have H4 : Hid (W4 = w3.alloc (bRL kw l.name l.frm ko nk kc vo2 m5 vc2 ((k : Int) + 1)) ∧ W4.heap[w3.heap.size]? = some (bRL kw l.name l.frm ko nk kc vo2 m5 vc2 ((k : Int) + 1)) ∧ W4.heap.size = w3.heap.size + 1) := ⟨hW4, by rw [hW4]; exact heap_alloc_at' _ _ rfl, by rw [hW4]; simp⟩
          have HL := hideIt hl
          clear hown2 hbel2 hb3 hb4 hrk hrv hfk hfv hnk hm5 hkw hok hlm hW4 hl
          go_wp2_with fail
          rw [← H4.out.1]
          refine HWR.out.mono ?_
          rintro e w5 ⟨rfl, hb5⟩
          obtain ⟨er, her⟩ : ∃ er, faultC (bareR acc) l = er := ⟨_, rfl⟩
          rw [her]
          obtain ⟨e0, e1, e2, e3, e4, e5, ez⟩ := blk6 hb5 (by rw [H4.out.2.2]; omega) H4.out.2.1
          by_cases her0 : er = 0
          · have hown5 := own_below hown4 hb5
            have hbel5 := nx_trans hbel4 hb5
            have hB5 : w1.heap.size ≤ w5.heap.size := hbel5.size
            have HX : Hid (rd s = rdC (k + 1) (bareR (acc ++ [({ l with place := k + 1 }, .slice ko nk kc, .slice vo2 m5 vc2)])) (ps.drop (k + 1))) := by
              show _ = _
              rw [HS.out.1, HD.out, rdC_good' HF0.out (by rw [HF.out.2.2.1]; exact HL.out) (by rw [her, her0])]
              simp [bareR]
            have HV5 : Hid ((∀ p ∈ acc, RSv w5 p) ∧ RSv w5 ({ l with place := k + 1 }, .slice ko nk kc, .slice vo2 m5 vc2)) := ⟨fun q hq => (HV.out.1 q hq).nx hb5, HV.out.2.nx hb5⟩
            subst her0
            clear hown4 hbel4 hb5 her HV
            go_wp2_with (at_builtin; refine wpList_append_own _ rfl (.tmp 44) (.tmp 46) 116 rfl w1.heap.size 122 t0 _ 6 104 Tryz.underlying116 hi hz0 hz1 hz2 rfl (by decide) _ _ _ rfl (hown5.alloc _) ⟨w5.heap.size, 0, none⟩ 1 1 [.string kw, .string l.name, .string l.frm, .slice ko nk kc, .slice vo2 m5 vc2, .int .i64 ((k : Int) + 1)] rfl rfl (cells_new_at w5 [.string kw, .string l.name, .string l.frm, .slice ko nk kc, .slice vo2 m5 vc2, .int .i64 ((k : Int) + 1)] 122 rfl) ?c2 ?c3 ?c4 ?c5 ?next)
            case c2 => intro u hu; simp at hu; rcases hu with rfl | rfl | rfl | rfl | rfl | rfl <;> rfl
            case c3 => unfold maxLen; omega
            case c4 => omega
            case c5 => simp; omega
            case next =>
              intro v' w6 hown' hgrow _
              have R : w6.ownsRow w1.heap.size 122 6 v' (m + 1) (flatR (acc ++ [({ l with place := k + 1 }, .slice ko nk kc, .slice vo2 m5 vc2)])) ∧ Below w1.heap.size w1 w6 ∧ ∀ p ∈ acc ++ [({ l with place := k + 1 }, .slice ko nk kc, .slice vo2 m5 vc2)], RSv w6 p := by
                refine ⟨by rw [flatR_append]; simp only [flatR]; rw [HKW.out]; exact hown', (hbel5.alloc hB5 _).grown hgrow (by simp; omega) (fun g hg => (hown5.lt g hg).1), ?_⟩
                intro q hq
                have hq3 : RSv w5 q := by
                  rcases List.mem_append.1 hq with h | h
                  · exact HV5.out.1 q h
                  · simp at h; subst h; exact HV5.out.2
                exact (hq3.nx (nx_alloc _ _)).grown hgrow (own_typed (hown5.alloc _))
              clear hown' hgrow hown5 hbel5
              go_wp2_with fail
              go_roundw
              case rel => exact ⟨k + 1, m + 1, acc ++ [({ l with place := k + 1 }, .slice ko nk kc, .slice vo2 m5 vc2)], by omega, by go_num, by omega, ⟨HX.out, by simp [HS.out.2.1], R.2.2⟩, R.1, R.2.1⟩
              case measure => simp [intOf]; omega
          · have HX : Hid ((rd s).err = er ∧ (rd s).at' = k + 1 ∧ Below w.heap.size w w5 ∧ er ≠ 0) := by
              have e : rd s = ⟨[], er, k + 1⟩ := by
                rw [HS.out.1, HD.out, rdC_bad2 HF0.out (by rw [HF.out.2.2.1]; exact HL.out) (by rw [her]; exact her0), her]
              refine ⟨by rw [e], by rw [e], nx_trans HB1.out (nx_trans hbel4 hb5), her0⟩
            have herb : ((er : Int) != 0) = true := by rw [bne_iff_ne]; omega
            clear hown4 hbel4 hb5 her her0
            go_wp2_with fail
            go_ret3
            refine .inl ⟨by rw [HX.out.1]; exact HX.out.2.2.2, ?_, HX.out.2.2.1⟩
            exact ret_sii (by rw [HX.out.1]) (by rw [HX.out.2.1]; omega) rfl
    · have e0 : ps.drop k = [] := List.drop_of_length_le (by rw [HP.out.2.1]; omega)
      obtain rfl : k = n := by omega
      have hrr : rd s = rdC k (bareR acc) [] := by rw [HS.out.1, e0]
      rw [rdC] at hrr
      by_cases hm0 : m = 0
      · have HX : Hid (rd s = ⟨[], 2, k⟩ ∧ Below w.heap.size w wr) := ⟨by rw [hrr, if_pos (by simp [bareR, HS.out.2.1, hm0])], nx_trans HB1.out hbel⟩
        subst hm0
        clear hrr e0 hown hbel
        go_wp2_with fail
        go_ret3
        exact .inl ⟨by rw [HX.out.1]; exact (by decide : (2 : Nat) ≠ 0), ret_sii (by rw [HX.out.1]; rfl) (by rw [HX.out.1]) rfl, HX.out.2⟩
      · have HX : Hid (rd s = ⟨bareR acc, 0, 0⟩ ∧ Below w.heap.size w wr ∧ RLinesAt wr (.slice vo m vc) acc ∧ acc.length = m) :=
          ⟨by rw [hrr, if_neg (by simp [bareR, HS.out.2.1, hm0])], nx_trans HB1.out hbel, ⟨by rw [HS.out.2.1]; exact own_row hown, fun q hq => (HS.out.2.2 q hq).1⟩, HS.out.2.1⟩
        have hm0b : ((m : Int) == 0) = false := by simp; omega
        clear hrr e0 hown hbel
        go_wp2_with fail
        go_ret3
        refine .inr ⟨acc, vo, vc, by rw [HX.out.1], by rw [HX.out.1], by rw [HX.out.2.2.2]; omega, by rw [HX.out.2.2.2]; omega, ret_sii rfl rfl (by rw [HX.out.2.2.2]), ?_, HX.out.2.1⟩
        rw [HX.out.2.2.2]; exact HX.out.2.2.1
end Co
end Go.Proofs.YtmmmjpkhnbfnbaaGreat
