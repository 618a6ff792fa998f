import Derived.Test.YtohbonfngeblkaaGreatMgK
namespace Go.Proofs.YtohbonfngeblkaaGreat
open Go.RowKit
namespace Co
def findC (ls : List Ln) (kind : Nat) (name : ByteArray) : Option Ln := ls.find? fun l => (l.kind == kind) && (l.name.toList == name.toList)
def cntC (ls : List Ln) (kind : Nat) : Nat := (ls.filter fun l => l.kind == kind).length
def manyC (ls : List Ln) (kind : Nat) : Bool := if kind = 2 ∨ kind = 3 then decide (6 ≤ cntC ls kind) else false
def faultC (ls : List Ln) (l : Ln) : Nat :=
  if decide (ls.length = 0) != decide (l.kind = 1) then 2
  else if allFit l.sets = false then 3
  else if manyC ls l.kind = true then 4
  else if twc l.sets = true then 5
  else if (findC ls l.kind l.name).isSome = true then 5 else 0
abbrev bare (ls : List (Ln × Value)) : List Ln := ls.map (·.1)
theorem findL_bare : ∀ (ls : List (Ln × Value)) (kind : Nat) (name : ByteArray), findC (bare ls) kind name = (findL ls kind name).map (·.1)
  | [], _, _ => rfl
  | p :: r, kind, name => by
    have ih := findL_bare r kind name
    simp only [findC, findL, bare, List.map_cons, List.find?_cons] at ih ⊢
    by_cases h : isL kind name p = true
    · have h' : ((p.1.kind == kind) && (p.1.name.toList == name.toList)) = true := h
      rw [h, h']; rfl
    · have h1 : isL kind name p = false := by simpa using h
      have h' : ((p.1.kind == kind) && (p.1.name.toList == name.toList)) = false := h1
      rw [h1, h']; exact ih
theorem cnt_bare (ls : List (Ln × Value)) (kind : Nat) : cntC (bare ls) kind = cnt ls kind := by
  unfold cntC cnt bare
  rw [List.filter_map, List.length_map]
  rfl
theorem fault_bare (ls : List (Ln × Value)) (l : Ln) : faultC (bare ls) l = faultN ls l := by
  unfold faultC faultN manyC many
  rw [findL_bare, cnt_bare]
  simp only [bare, List.length_map, Option.isSome_map]
structure Rd where
  lines : List Ln
  err : Nat
  at' : Nat
def rdC : Nat → List Ln → List ByteArray → Rd
  | i, acc, [] => if acc.length = 0 then ⟨[], 2, i⟩ else ⟨acc, 0, 0⟩
  | i, acc, p :: r =>
    if (flds p).length = 0 then rdC (i + 1) acc r
    else match parseF (flds p) with
      | none => ⟨[], 2, i + 1⟩
      | some l => if faultC acc l = 0 then rdC (i + 1) (acc ++ [{ l with place := i + 1 }]) r else ⟨[], faultC acc l, i + 1⟩
def rd (s : ByteArray) : Rd := rdC 0 [] (pieces s 10)
theorem rdC_skip {i : Nat} {acc : List Ln} {p : ByteArray} {r : List ByteArray} (h : (flds p).length = 0) : rdC i acc (p :: r) = rdC (i + 1) acc r := by rw [rdC, if_pos h]
theorem rdC_bad {i : Nat} {acc : List (Ln × Value)} {p : ByteArray} {r : List ByteArray} (h : ¬ (flds p).length = 0) (hb : readN acc (flds p) ≠ 0) : rdC i (bare acc) (p :: r) = ⟨[], readN acc (flds p), i + 1⟩ := by
  rw [rdC, if_neg h]
  unfold readN at hb ⊢
  cases hp : parseF (flds p) with
  | none => rfl
  | some l =>
    rw [hp] at hb
    simp only at hb ⊢
    rw [fault_bare, if_neg hb]
theorem rdC_good {i : Nat} {acc : List (Ln × Value)} {p : ByteArray} {r : List ByteArray} {l : Ln} (h : ¬ (flds p).length = 0) (hl : parseF (flds p) = some l) (hb : readN acc (flds p) = 0) : rdC i (bare acc) (p :: r) = rdC (i + 1) (bare acc ++ [{ l with place := i + 1 }]) r := by
  rw [rdC, if_neg h, hl]
  unfold readN at hb
  rw [hl] at hb
  simp only at hb ⊢
  rw [fault_bare, if_pos hb]
def Sv (w : World) (p : Ln × Value) : Prop := RowAt w p.2 p.1.sets.length (flatS p.1.sets) ∧ ∀ so n sc, p.2 = .slice so n sc → Fr 0 w so
theorem Sv.nx {w w' : World} {p : Ln × Value} (h : Sv w p) (hb : Below w.heap.size w w') : Sv w' p := ⟨h.1.nx hb, fun so n sc e => (h.2 so n sc e).nx hb⟩
theorem row_grown {w w' : World} {v : Value} {n : Nat} {cs : List Value} {row : Option Nat} (h : RowAt w v n cs) (hg : w.grownBy w' row) (hne : ∀ so m sc b off, v = .slice so m sc → so = some ⟨b, off, none⟩ → row ≠ some b) : RowAt w' v n cs := by
  obtain ⟨ao, cap, e, hc, h⟩ := h
  refine ⟨ao, cap, e, hc, ?_⟩
  rcases h with h | ⟨b, off, h1, h2, h3⟩
  · exact .inl h
  · refine .inr ⟨b, off, h1, Nat.lt_of_lt_of_le h2 hg.size, fun j x hx => ?_⟩
    exact hg.cell (h3 j x hx) (fun e' => hne ao n cap b off e h1 e'.symm)
theorem Sv.grown {w w' : World} {p : Ln × Value} {row : Option Nat} (h : Sv w p) (hg : w.grownBy w' row) (hrow : ∀ g, row = some g → ∃ cur, w.heap[g]? = some (.cells cur 136 (0, 0))) : Sv w' p := by
  have key : ∀ so m sc b off, p.2 = .slice so m sc → so = some ⟨b, off, none⟩ → row ≠ some b := by
    intro so m sc b off e1 e2 e3
    obtain ⟨_, cur, h2⟩ := h.2 so m sc e1 b off e2
    obtain ⟨cur', h3⟩ := hrow b e3
    rw [h2] at h3
    simp at h3
  refine ⟨row_grown h.1 hg key, fun so n sc e b off e2 => ?_⟩
  obtain ⟨h1, cur, h2⟩ := h.2 so n sc e b off e2
  exact ⟨h1, cur, (hg.block b (Array.getElem?_eq_some_iff.1 h2).1 (fun e' => key so n sc b off e e2 e'.symm)).trans h2⟩
theorem own_typed {w : World} {B size : Nat} {e : TypeId} {v : Value} {n : Nat} {xs : List Value} (h : w.ownsRow B e size v n xs) : ∀ g, v.ownBlock = some g → ∃ cur, w.heap[g]? = some (.cells cur e (0, 0)) := by
  intro g hg
  rcases h.2 with ⟨rfl, _⟩ | ⟨g', cap', cur, rfl, hb, hh, _⟩
  · simp [Value.ownBlock] at hg
  · simp [Value.ownBlock] at hg
    subst hg
    exact ⟨cur, hh⟩
def ReadAll (s : ByteArray) (w w' : World) (e : Ending) : Prop :=
  ((rd s).err ≠ 0 ∧ e = .returned (.tuple #[.slice none 0 0, .int .i64 (rd s).err, .int .i64 (rd s).at']) ∧ Below w.heap.size w w') ∨
  (∃ ls ao cap, (rd s).err = 0 ∧ (rd s).lines = bare ls ∧ ls.length ≤ 1001 ∧ 0 < ls.length ∧ e = .returned (.tuple #[.slice ao ls.length cap, .int .i64 0, .int .i64 0]) ∧ LinesAt w' (.slice ao ls.length cap) ls ∧ Below w.heap.size w w')
theorem ret_sii {a b : Option Addr} {n m c d : Nat} {x y z t : Int} (h : x = y) (h2 : z = t) (h3 : Value.slice a n c = .slice b m d) : Ending.returned (.tuple #[.slice a n c, .int .i64 x, .int .i64 z]) = .returned (.tuple #[.slice b m d, .int .i64 y, .int .i64 t]) := by rw [h, h2, h3]
set_option maxRecDepth 20000 in
set_option maxHeartbeats 4000000 in
theorem readLines_any (s : ByteArray) (w : World) (hs : s.size ≤ 1000) :
    Calls Tryz.prog 71 #[.string s] w fun e w' => ReadAll s w w' e := by
  obtain ⟨t0, hi, hz0, hz1, hz2⟩ := info_parts info_line
  go_enter Tryz.func71, Tryz.ntmps71
  go_wp2_with fail
  refine (split_nl s _ hs).mono ?_; rintro e w1 ⟨pa, pc, rfl, hp, hb1⟩
  have hlen := pieces_len s 10
  have hsmall := pieces_small s 10
  obtain ⟨ps, hps⟩ : ∃ ps, pieces s 10 = ps := ⟨_, rfl⟩
  rw [hps] at hp hlen hsmall ⊢
  obtain ⟨n, hn⟩ : ∃ n, ps.length = n := ⟨_, rfl⟩
  rw [hn] at hp hlen ⊢
  have HP : Hid (RowAt w1 (.slice pa n pc) n (strs ps) ∧ ps.length = n ∧ pieces s 10 = ps ∧ ∀ p ∈ ps, p.size ≤ s.size) := ⟨hp, hn, hps, hsmall⟩
  have HB1 : Hid (Below w.heap.size w w1) := hb1
  clear hp hn hps hb1 hsmall
  go_wp2_with fail
  go_loopw [6, 7] (fun v i wr => ∃ (k m : Nat) (acc : List (Ln × Value)), k ≤ n ∧ i = .int .i64 k ∧ m ≤ k ∧ Hid (rd s = rdC k (bare acc) (ps.drop k) ∧ acc.length = m ∧ ∀ p ∈ acc, Sv wr p) ∧ wr.ownsRow w1.heap.size 136 5 v m (flatL acc) ∧ Below w1.heap.size w1 wr) (fun _ i _ => n - (intOf i).toNat)
  case atStart => exact ⟨0, 0, [], Nat.zero_le _, rfl, Nat.le_refl _, ⟨by rw [rd, HP.out.2.2.1]; rfl, rfl, by simp⟩, World.ownsRow_made w1 #[] 0 (Nat.le_refl _) (Nat.zero_le _) rfl, nx_alloc _ _⟩
  case round =>
    obtain ⟨k, m, acc, hk, rfl, hm, HS, hown, hbel⟩ := hrel
    obtain ⟨vo, vc, hv, _⟩ := own_row hown
    subst hv
    by_cases hlt : k < n
    · obtain ⟨p, hpk⟩ : ∃ p, ps[k]? = some p := ⟨_, List.getElem?_eq_getElem (by rw [HP.out.2.1]; exact hlt)⟩
      obtain ⟨bl, off, hpa, hbl, hc⟩ := (HP.out.1.nx hbel).at (strs_at hpk)
      subst hpa
      have hps2 : p.size ≤ 1000 := Nat.le_trans (HP.out.2.2.2 p (List.mem_of_getElem? hpk)) hs
      have HD : Hid (ps.drop k = p :: ps.drop (k + 1)) := drop_at hpk
      have hlti : (k : Int) < (n : Int) := by omega
      clear hpk
      go_wp2_with fail
      refine (fieldsOf_any p _ hps2).mono ?_; rintro e w2 ⟨fo, fc, rfl, hf, hb2⟩
      have hfl := flds_len p
      have hfs := flds_small p
      obtain ⟨fs, hfe⟩ : ∃ fs, flds p = fs := ⟨_, rfl⟩
      rw [hfe] at hf hfl hfs ⊢
      obtain ⟨fn, hfn⟩ : ∃ fn, fs.length = fn := ⟨_, rfl⟩
      rw [hfn] at hf hfl ⊢
      have hown2 := own_below hown hb2
      have hbel2 := nx_trans hbel hb2
      have HF : Hid (RowAt w2 (.slice fo fn fc) fn (strs fs) ∧ fs.length = fn ∧ flds p = fs ∧ ∀ q ∈ fs, q.size ≤ p.size) := ⟨hf, hfn, hfe, hfs⟩
      have HSv : Hid (∀ p ∈ acc, Sv w2 p) := fun q hq => (HS.out.2.2 q hq).nx hb2
      clear hf hfn hfe hfs hown hbel hb2
      by_cases hf0 : fn = 0
      · have HF0 : Hid (fn = 0) := hf0
        have hf0b : ¬ (0 : Int) < (fn : Int) := by omega
        have hf0c : ¬ 0 < fn := by omega
        clear hf0
        go_wp2_with fail
        go_roundw
        case rel => exact ⟨k + 1, m, acc, by omega, by go_num, by omega, ⟨by rw [HS.out.1, HD.out, rdC_skip (by rw [HF.out.2.2.1, HF.out.2.1]; exact HF0.out)], HS.out.2.1, HSv.out⟩, hown2, hbel2⟩
        case measure => simp [intOf]; omega
      · have hf0b : (0 : Int) < (fn : Int) := by omega
        have HF0 : Hid (¬ (flds p).length = 0) := by show ¬ _; rw [HF.out.2.2.1, HF.out.2.1]; exact hf0
        have HRL := hideIt (readLine_any fo fc fn fs vo vc m acc w2 HF.out.1 HF.out.2.1 (by omega) (by omega) (fun q hq => Nat.le_trans (HF.out.2.2.2 q hq) hps2) (by
          have h := own_row hown2
          refine ⟨by rw [HS.out.2.1]; exact h, fun q hq => (HSv.out q hq).1⟩) HS.out.2.1 (by omega))
        go_wp2_with fail
        refine HRL.out.mono ?_
        rintro e w3 (⟨hbad, x0, x1, s2, s3, a4, n4, c4, rfl, hb3⟩ | ⟨l, so, sc, hz, hpl, rfl, hrow, hfr, hb3⟩)
        · obtain ⟨er, her⟩ : ∃ er, readN acc fs = er := ⟨_, rfl⟩
          rw [her] at hbad ⊢
          have HX : Hid ((rd s).err = er ∧ (rd s).at' = k + 1 ∧ Below w.heap.size w w3) := by
            have e : rd s = ⟨[], er, k + 1⟩ := by
              rw [HS.out.1, HD.out, rdC_bad HF0.out (by rw [HF.out.2.2.1, her]; exact hbad), HF.out.2.2.1, her]
            refine ⟨by rw [e], by rw [e], nx_trans HB1.out (nx_trans hbel2 hb3)⟩
          have herb : ((er : Int) != 0) = true := by rw [bne_iff_ne]; omega
          have HBD := hideIt hbad
          clear hown2 hbel2 hb3 her hbad
          go_wp2_with fail
          go_ret3
          refine .inl ⟨by rw [HX.out.1]; exact HBD.out, ?_, nx_trans HX.out.2.2 (nx_alloc _ _)⟩
          exact ret_sii (by rw [HX.out.1]) (by rw [HX.out.2.1]; omega) rfl
        · obtain ⟨m5, hm5⟩ : ∃ m5, l.sets.length = m5 := ⟨_, rfl⟩
          rw [hm5] at hrow ⊢
          have hown3 := own_below hown2 hb3
          have hbel3 := nx_trans hbel2 hb3
          have hB3 : w1.heap.size ≤ w3.heap.size := hbel3.size
          have HX : Hid (rd s = rdC (k + 1) (bare (acc ++ [({ l with place := k + 1 }, .slice so m5 sc)])) (ps.drop (k + 1)) ∧ l.sets.length = m5) := by
            refine ⟨?_, hm5⟩
            rw [HS.out.1, HD.out, rdC_good HF0.out (by rw [HF.out.2.2.1]; exact hpl) (by rw [HF.out.2.2.1]; exact hz)]
            simp [bare]
          have HV : Hid ((∀ p ∈ acc, Sv w3 p) ∧ Sv w3 ({ l with place := k + 1 }, .slice so m5 sc)) := by
            refine ⟨fun q hq => (HSv.out q hq).nx hb3, ?_, ?_⟩
            · show RowAt w3 (.slice so m5 sc) l.sets.length (flatS l.sets)
              rw [hm5]; exact hrow
            · intro so' n' sc' e
              simp only [Value.slice.injEq] at e
              obtain ⟨rfl, _, _⟩ := e
              exact hfr.mono (Nat.zero_le _)
          clear hown2 hbel2 hb3 hz hpl hrow hfr hm5 HSv
          go_wp2_with (at_builtin; refine wpList_append_own _ rfl (.tmp 42) (.tmp 44) 111 rfl w1.heap.size 136 t0 _ 5 72 Tryz.underlying111 hi hz0 hz1 hz2 rfl (by decide) _ _ _ rfl ((hown3.alloc _).alloc _) ⟨w3.heap.size + 1, 0, none⟩ 1 1 [.int .i64 ((k : Int) + 1), .int .i64 (l.kind : Int), .string l.name, .string l.frm, .slice so m5 sc] rfl rfl ?c1 ?c2 ?c3 ?c4 ?c5 ?next)
          case c1 => exact cells_new_at (w3.alloc _) [.int .i64 ((k : Int) + 1), .int .i64 (l.kind : Int), .string l.name, .string l.frm, .slice so m5 sc] _ (by simp)
          case c2 => intro u hu; simp at hu; rcases hu with rfl | rfl | rfl | rfl | rfl <;> rfl
          case c3 => unfold maxLen; omega
          case c4 => omega
          case c5 => simp; omega
          case next =>
            intro v' w6 hown' hgrow _
            have R : w6.ownsRow w1.heap.size 136 5 v' (m + 1) (flatL (acc ++ [({ l with place := k + 1 }, .slice so m5 sc)])) ∧ Below w1.heap.size w1 w6 ∧ ∀ p ∈ acc ++ [({ l with place := k + 1 }, .slice so m5 sc)], Sv w6 p := by
              refine ⟨by rw [flatL_append]; exact hown', ((hbel3.alloc hB3 _).alloc (by simp; omega) _).grown hgrow (by simp; omega) (fun g hg => (hown3.lt g hg).1), ?_⟩
              intro q hq
              have hq3 : Sv w3 q := by
                rcases List.mem_append.1 hq with h | h
                · exact HV.out.1 q h
                · simp at h; subst h; exact HV.out.2
              exact ((hq3.nx (nx_alloc _ _)).nx (nx_alloc _ _)).grown hgrow (own_typed ((hown3.alloc _).alloc _))
            clear hown' hgrow hown3 hbel3
            go_wp2_with fail
            go_roundw
            case rel => exact ⟨k + 1, m + 1, acc ++ [({ l with place := k + 1 }, .slice so m5 sc)], by omega, by go_num, by omega, ⟨HX.out.1, by simp [HS.out.2.1], R.2.2⟩, R.1, R.2.1⟩
            case measure => simp [intOf]; omega
    · have e0 : ps.drop k = [] := List.drop_of_length_le (by rw [HP.out.2.1]; omega)
      obtain rfl : k = n := by omega
      have hrr : rd s = rdC k (bare acc) [] := by rw [HS.out.1, e0]
      rw [rdC] at hrr
      by_cases hm0 : m = 0
      · have HX : Hid (rd s = ⟨[], 2, k⟩ ∧ Below w.heap.size w wr) := ⟨by rw [hrr, if_pos (by simp [bare, HS.out.2.1, hm0])], nx_trans HB1.out hbel⟩
        subst hm0
        clear hrr e0 hown hbel
        go_wp2_with fail
        go_ret3
        exact .inl ⟨by rw [HX.out.1]; exact (by decide : (2 : Nat) ≠ 0), ret_sii (by rw [HX.out.1]; rfl) (by rw [HX.out.1]) rfl, HX.out.2⟩
      · have HX : Hid (rd s = ⟨bare acc, 0, 0⟩ ∧ Below w.heap.size w wr ∧ LinesAt wr (.slice vo m vc) acc ∧ acc.length = m) :=
          ⟨by rw [hrr, if_neg (by simp [bare, HS.out.2.1, hm0])], nx_trans HB1.out hbel, ⟨by rw [HS.out.2.1]; exact own_row hown, fun q hq => (HS.out.2.2 q hq).1⟩, HS.out.2.1⟩
        have hm0b : ((m : Int) == 0) = false := by simp; omega
        clear hrr e0 hown hbel
        go_wp2_with fail
        go_ret3
        refine .inr ⟨acc, vo, vc, by rw [HX.out.1], by rw [HX.out.1], by rw [HX.out.2.2.2]; omega, by rw [HX.out.2.2.2]; omega, ret_sii rfl rfl (by rw [HX.out.2.2.2]), ?_, HX.out.2.1⟩
        rw [HX.out.2.2.2]; exact HX.out.2.2.1
end Co
end Go.Proofs.YtohbonfngeblkaaGreat
