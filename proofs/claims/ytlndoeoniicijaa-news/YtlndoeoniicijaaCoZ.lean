
import Derived.Test.YtlndoeoniicijaaCoY
namespace Go.Proofs.Ytlndoeoniicijaa
open Go.RowKit
namespace Co

set_option maxRecDepth 20000 in
set_option maxHeartbeats 4000000 in
theorem read_any (s : ByteArray) (w : World) (hs : s.size ≤ 1000) :
    Calls Try.prog 29 #[.string s] w fun e w' => RRead s w w' e := by
  obtain ⟨t0, hi, hz0, hz1, hz2⟩ := info_parts info_rl
  go_enter Try.func29, Try.ntmps29
  go_wp2_with fail
  refine (rsplit_nl s _ hs).mono ?_; rintro e w1 ⟨pa, pc, rfl, hp, hb1⟩
  have hlen := pieces_len s 10
  have hsmall := pieces_small s 10
  obtain ⟨ps, hps⟩ : ∃ ps, pieces s 10 = ps := ⟨_, rfl⟩
  rw [hps] at hp hlen hsmall ⊢
  obtain ⟨n, hn⟩ : ∃ n, ps.length = n := ⟨_, rfl⟩
  rw [hn] at hp hlen ⊢
  have HP : Hid (RowAt w1 (.slice pa n pc) n (strs ps) ∧ ps.length = n ∧ pieces s 10 = ps ∧ ∀ p ∈ ps, p.size ≤ s.size) := ⟨hp, hn, hps, hsmall⟩
  have HB1 : Hid (Below w.heap.size w w1) := hb1
  clear hp hn hps hb1 hsmall
  go_wp2_with fail
  go_loopw [5, 7] (fun v i wr => ∃ (k m : Nat) (acc : List RL), k ≤ n ∧ i = .int .i64 k ∧ m ≤ k ∧ Hid (rd s = rdC k (bareR acc) (ps.drop k) ∧ acc.length = m ∧ ∀ p ∈ acc, RSv wr p) ∧ wr.ownsRow w1.heap.size 93 6 v m (flatR acc) ∧ Below w1.heap.size w1 wr) (fun _ i _ => n - (intOf i).toNat)
  case atStart => exact ⟨0, 0, [], Nat.zero_le _, rfl, Nat.le_refl _, ⟨by rw [rd, HP.out.2.2.1]; rfl, rfl, by simp⟩, World.ownsRow_nil _ _ _ _, Below.refl _ _⟩
  case round =>
    obtain ⟨k, m, acc, hk, rfl, hm, HS, hown, hbel⟩ := hrel
    obtain ⟨vo, vc, hv, _⟩ := own_row hown
    subst hv
    by_cases hlt : k < n
    · obtain ⟨p, hpk⟩ : ∃ p, ps[k]? = some p := ⟨_, List.getElem?_eq_getElem (by rw [HP.out.2.1]; exact hlt)⟩
      obtain ⟨bl, off, hpa, hbl, hc⟩ := (HP.out.1.nx hbel).at (strs_at hpk)
      subst hpa
      have hps2 : p.size ≤ 1000 := Nat.le_trans (HP.out.2.2.2 p (List.mem_of_getElem? hpk)) hs
      have HD : Hid (ps.drop k = p :: ps.drop (k + 1)) := drop_at hpk
      have hlti : (k : Int) < (n : Int) := by omega
      clear hpk
      go_wp2_with fail
      refine (rfields_any p _ hps2).mono ?_; rintro e w2 ⟨fo, fc, rfl, hf, hb2⟩
      have hfl := flds_len p
      have hfs := flds_small p
      obtain ⟨fs, hfe⟩ : ∃ fs, flds p = fs := ⟨_, rfl⟩
      rw [hfe] at hf hfl hfs ⊢
      obtain ⟨fn, hfn⟩ : ∃ fn, fs.length = fn := ⟨_, rfl⟩
      rw [hfn] at hf hfl ⊢
      have hown2 := own_below hown hb2
      have hbel2 := nx_trans hbel hb2
      have HF : Hid (RowAt w2 (.slice fo fn fc) fn (strs fs) ∧ fs.length = fn ∧ flds p = fs ∧ ∀ q ∈ fs, q.size ≤ p.size) := ⟨hf, hfn, hfe, hfs⟩
      have HSv : Hid (∀ p ∈ acc, RSv w2 p) := fun q hq => (HS.out.2.2 q hq).nx hb2
      clear hf hfn hfe hfs hown hbel hb2
      by_cases hf0 : fn = 0
      · have HF0 : Hid (fn = 0) := hf0
        have hf0b : ((fn : Int) == 0) = true := by rw [hf0]; rfl
        have hf0c : ¬ 0 < fn := by omega
        clear hf0
        go_wp2_with fail
        go_roundw
        case rel => exact ⟨k + 1, m, acc, by omega, by go_num, by omega, ⟨by rw [HS.out.1, HD.out, rdC_skip (by rw [HF.out.2.2.1, HF.out.2.1]; exact HF0.out)], HS.out.2.1, HSv.out⟩, hown2, hbel2⟩
        case measure => simp [intOf]; omega
      · have hf0b : ((fn : Int) == 0) = false := by simp; omega
        have HF0 : Hid (¬ (flds p).length = 0) := by show ¬ _; rw [HF.out.2.2.1, HF.out.2.1]; exact hf0
        have HFM := hideIt (formed_any fs ((k : Int) + 1) fo fc fn w2 HF.out.1 HF.out.2.1 (by omega) (by omega) (fun q hq => Nat.le_trans (HF.out.2.2.2 q hq) hps2))
        go_wp2_with fail
        refine HFM.out.mono ?_
        rintro e w3 (⟨hno, wd, nm, fr, ko, nk, kc, vo2, nv, vc2, pl, rfl, hb3⟩ | ⟨l, ko, kc, vo2, vc2, hl, rfl, hrk, hrv, hfk, hfv, hb3⟩)
        · have HX : Hid ((rd s).err = 2 ∧ (rd s).at' = k + 1 ∧ Below w.heap.size w (w3.alloc (bRL wd nm fr ko nk kc vo2 nv vc2 pl))) := by
            have e : rd s = ⟨[], 2, k + 1⟩ := by
              rw [HS.out.1, HD.out, rdC_bad' HF0.out (by rw [HF.out.2.2.1]; exact hno)]
            refine ⟨by rw [e], by rw [e], nx_trans (nx_trans HB1.out (nx_trans hbel2 hb3)) (nx_alloc _ _)⟩
          clear hown2 hbel2 hb3 hno
          go_wp2_with fail
          refine (wrong_no wd nm fr ko nk kc vo2 nv vc2 pl vo m vc _).mono ?_
          rintro e w4 ⟨rfl, hb4⟩
          have HB4 : Hid (Below w.heap.size w w4) := nx_trans HX.out.2.2 hb4
          clear hb4
          go_wp2_with fail
          go_ret3
          refine .inl ⟨by rw [HX.out.1]; decide, ?_, HB4.out⟩
          exact ret_sii (by rw [HX.out.1]; rfl) (by rw [HX.out.2.1]; omega) rfl
        · obtain ⟨nk, hnk⟩ : ∃ nk, (keysOf l).length = nk := ⟨_, rfl⟩
          obtain ⟨m5, hm5⟩ : ∃ m5, l.sets.length = m5 := ⟨_, rfl⟩
          obtain ⟨kw, hkw⟩ : ∃ kw, kwK l.kind = kw := ⟨_, rfl⟩
          have hok := parseF_ok hl
          have hlm : l.sets.length ≤ 1001 := Nat.le_trans (parseF_kind hl).2.2 (by rw [HF.out.2.1]; omega)
          obtain ⟨W4, hW4⟩ : ∃ W4, W4 = w3.alloc (bRL kw l.name l.frm ko nk kc vo2 m5 vc2 ((k : Int) + 1)) := ⟨_, rfl⟩
          have hb4 : Below w3.heap.size w3 W4 := by rw [hW4]; exact nx_alloc _ _
          have hown4 := own_below (own_below hown2 hb3) hb4
          have hbel4 := nx_trans (nx_trans hbel2 hb3) hb4
          have HV : Hid ((∀ p ∈ acc, RSv W4 p) ∧ RSv W4 ({ l with place := k + 1 }, .slice ko nk kc, .slice vo2 m5 vc2)) := by
            refine ⟨fun q hq => ((HSv.out q hq).nx hb3).nx hb4, ?_⟩
            refine RSv.nx ?_ hb4
            refine ⟨⟨?_, ?_⟩, ?_, ?_⟩
            · rw [← hnk]; exact hrk
            · rw [← hm5]; exact hrv
            · intro so n' sc e
              simp only [Value.slice.injEq] at e
              obtain ⟨rfl, _, _⟩ := e
              exact hfk
            · intro so n' sc e
              simp only [Value.slice.injEq] at e
              obtain ⟨rfl, _, _⟩ := e
              exact hfv
          have HWR := hideIt (wrong_any l hok hlm ko kc vo2 vc2 ((k : Int) + 1) vo vc m acc W4 ⟨by rw [HS.out.2.1]; exact own_row hown4, fun q hq => (HV.out.1 q hq).1⟩ HS.out.2.1 (by omega) (hrk.nx hb4) (hrv.nx hb4))
          rw [hkw, hnk, hm5] at HWR
          rw [hkw, hnk, hm5]
          have HKW := hideIt hkw
          have H4 : Hid (W4 = w3.alloc (bRL kw l.name l.frm ko nk kc vo2 m5 vc2 ((k : Int) + 1)) ∧ W4.heap[w3.heap.size]? = some (bRL kw l.name l.frm ko nk kc vo2 m5 vc2 ((k : Int) + 1)) ∧ W4.heap.size = w3.heap.size + 1) := ⟨hW4, by rw [hW4]; exact heap_alloc_at' _ _ rfl, by rw [hW4]; simp⟩
          have HL := hideIt hl
          clear hown2 hbel2 hb3 hb4 hrk hrv hfk hfv hnk hm5 hkw hok hlm hW4 hl
          go_wp2_with fail
          rw [← H4.out.1]
          refine HWR.out.mono ?_
          rintro e w5 ⟨rfl, hb5⟩
          obtain ⟨er, her⟩ : ∃ er, faultC (bareR acc) l = er := ⟨_, rfl⟩
          rw [her]
          obtain ⟨e0, e1, e2, e3, e4, e5, ez⟩ := blk6 hb5 (by rw [H4.out.2.2]; omega) H4.out.2.1
          by_cases her0 : er = 0
          · have hown5 := own_below hown4 hb5
            have hbel5 := nx_trans hbel4 hb5
            have hB5 : w1.heap.size ≤ w5.heap.size := hbel5.size
            have HX : Hid (rd s = rdC (k + 1) (bareR (acc ++ [({ l with place := k + 1 }, .slice ko nk kc, .slice vo2 m5 vc2)])) (ps.drop (k + 1))) := by
              show _ = _
              rw [HS.out.1, HD.out, rdC_good' HF0.out (by rw [HF.out.2.2.1]; exact HL.out) (by rw [her, her0])]
              simp [bareR]
            have HV5 : Hid ((∀ p ∈ acc, RSv w5 p) ∧ RSv w5 ({ l with place := k + 1 }, .slice ko nk kc, .slice vo2 m5 vc2)) := ⟨fun q hq => (HV.out.1 q hq).nx hb5, HV.out.2.nx hb5⟩
            subst her0
            clear hown4 hbel4 hb5 her HV
            go_wp2_with (at_builtin; refine wpList_append_own _ rfl (.tmp 44) (.tmp 46) 87 rfl w1.heap.size 93 t0 _ 6 104 Try.underlying87 hi hz0 hz1 hz2 rfl (by decide) _ _ _ rfl (hown5.alloc _) ⟨w5.heap.size, 0, none⟩ 1 1 [.string kw, .string l.name, .string l.frm, .slice ko nk kc, .slice vo2 m5 vc2, .int .i64 ((k : Int) + 1)] rfl rfl (cells_new_at w5 [.string kw, .string l.name, .string l.frm, .slice ko nk kc, .slice vo2 m5 vc2, .int .i64 ((k : Int) + 1)] 93 rfl) ?c2 ?c3 ?c4 ?c5 ?next)
            case c2 => intro u hu; simp at hu; rcases hu with rfl | rfl | rfl | rfl | rfl | rfl <;> rfl
            case c3 => unfold maxLen; omega
            case c4 => omega
            case c5 => simp; omega
            case next =>
              intro v' w6 hown' hgrow _
              have R : w6.ownsRow w1.heap.size 93 6 v' (m + 1) (flatR (acc ++ [({ l with place := k + 1 }, .slice ko nk kc, .slice vo2 m5 vc2)])) ∧ Below w1.heap.size w1 w6 ∧ ∀ p ∈ acc ++ [({ l with place := k + 1 }, .slice ko nk kc, .slice vo2 m5 vc2)], RSv w6 p := by
                refine ⟨by rw [flatR_append]; simp only [flatR]; rw [HKW.out]; exact hown', (hbel5.alloc hB5 _).grown hgrow (by simp; omega) (fun g hg => (hown5.lt g hg).1), ?_⟩
                intro q hq
                have hq3 : RSv w5 q := by
                  rcases List.mem_append.1 hq with h | h
                  · exact HV5.out.1 q h
                  · simp at h; subst h; exact HV5.out.2
                exact (hq3.nx (nx_alloc _ _)).grown hgrow (own_typed (hown5.alloc _))
              clear hown' hgrow hown5 hbel5
              go_wp2_with fail
              go_roundw
              case rel => exact ⟨k + 1, m + 1, acc ++ [({ l with place := k + 1 }, .slice ko nk kc, .slice vo2 m5 vc2)], by omega, by go_num, by omega, ⟨HX.out, by simp [HS.out.2.1], R.2.2⟩, R.1, R.2.1⟩
              case measure => simp [intOf]; omega
          · have HX : Hid ((rd s).err = er ∧ (rd s).at' = k + 1 ∧ Below w.heap.size w w5 ∧ er ≠ 0) := by
              have e : rd s = ⟨[], er, k + 1⟩ := by
                rw [HS.out.1, HD.out, rdC_bad2 HF0.out (by rw [HF.out.2.2.1]; exact HL.out) (by rw [her]; exact her0), her]
              refine ⟨by rw [e], by rw [e], nx_trans HB1.out (nx_trans hbel4 hb5), her0⟩
            have herb : ((er : Int) != 0) = true := by rw [bne_iff_ne]; omega
            clear hown4 hbel4 hb5 her her0
            go_wp2_with fail
            go_ret3
            refine .inl ⟨by rw [HX.out.1]; exact HX.out.2.2.2, ?_, HX.out.2.2.1⟩
            exact ret_sii (by rw [HX.out.1]) (by rw [HX.out.2.1]; omega) rfl
    · have e0 : ps.drop k = [] := List.drop_of_length_le (by rw [HP.out.2.1]; omega)
      obtain rfl : k = n := by omega
      have hrr : rd s = rdC k (bareR acc) [] := by rw [HS.out.1, e0]
      rw [rdC] at hrr
      by_cases hm0 : m = 0
      · have HX : Hid (rd s = ⟨[], 2, k⟩ ∧ Below w.heap.size w wr) := ⟨by rw [hrr, if_pos (by simp [bareR, HS.out.2.1, hm0])], nx_trans HB1.out hbel⟩
        subst hm0
        clear hrr e0 hown hbel
        go_wp2_with fail
        go_ret3
        exact .inl ⟨by rw [HX.out.1]; exact (by decide : (2 : Nat) ≠ 0), ret_sii (by rw [HX.out.1]; rfl) (by rw [HX.out.1]) rfl, HX.out.2⟩
      · have HX : Hid (rd s = ⟨bareR acc, 0, 0⟩ ∧ Below w.heap.size w wr ∧ RLinesAt wr (.slice vo m vc) acc ∧ acc.length = m) :=
          ⟨by rw [hrr, if_neg (by simp [bareR, HS.out.2.1, hm0])], nx_trans HB1.out hbel, ⟨by rw [HS.out.2.1]; exact own_row hown, fun q hq => (HS.out.2.2 q hq).1⟩, HS.out.2.1⟩
        have hm0b : ((m : Int) == 0) = false := by simp; omega
        clear hrr e0 hown hbel
        go_wp2_with fail
        go_ret3
        refine .inr ⟨acc, vo, vc, by rw [HX.out.1], by rw [HX.out.1], by rw [HX.out.2.2.2]; omega, by rw [HX.out.2.2.2]; omega, ret_sii rfl rfl (by rw [HX.out.2.2.2]), ?_, HX.out.2.1⟩
        rw [HX.out.2.2.2]; exact HX.out.2.2.1
end Co
end Go.Proofs.Ytlndoeoniicijaa
