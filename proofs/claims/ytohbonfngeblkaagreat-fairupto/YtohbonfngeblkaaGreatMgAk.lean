import Derived.Test.YtohbonfngeblkaaGreatMgM
namespace Go.Proofs.YtohbonfngeblkaaGreat
open Go.RowKit
namespace Co
def chC (ls : List Ln) : Nat → ByteArray → List Ln
  | 0, _ => []
  | f + 1, nm => match findC ls 2 nm with
    | none => []
    | some p => p :: chC ls f p.frm
theorem chn_bare (ls : List (Ln × Value)) : ∀ (f : Nat) (nm : ByteArray), chC (bare ls) f nm = bare (chn ls f nm)
  | 0, _ => rfl
  | f + 1, nm => by
    rw [chC, chn, findL_bare]
    cases findL ls 2 nm with
    | none => rfl
    | some p => simp only [Option.map_some]; rw [chn_bare ls f]; rfl
def lonC (all : List Ln) (most : Nat) : List Ln → Nat
  | [] => 0
  | p :: r => if most < (chC all 7 p.frm).length then p.place else lonC all most r
theorem lon_bare (all : List (Ln × Value)) (most : Nat) : ∀ ls : List (Ln × Value), lonC (bare all) most (bare ls) = longN all most ls
  | [] => rfl
  | p :: r => by
    have ih := lon_bare all most r
    simp only [bare, List.map_cons, lonC, longN] at ih ⊢
    rw [ih]
    have e := chn_bare all 7 p.1.frm
    simp only [bare] at e
    rw [e, List.length_map]
def baC (ls : List Ln) (frm : ByteArray) : Bool := frm.toList.isEmpty || (findC ls 2 frm).isSome
theorem ba_bare (ls : List (Ln × Value)) (frm : ByteArray) : baC (bare ls) frm = baseB ls frm := by
  unfold baC baseB
  rw [findL_bare, Option.isSome_map]
def noC (all : List Ln) : List Ln → Option Nat
  | [] => none
  | p :: r => if baC all p.frm = true then noC all r else some p.place
theorem no_bare (all : List (Ln × Value)) : ∀ ls : List (Ln × Value), noC (bare all) (bare ls) = noBase all ls
  | [] => rfl
  | p :: r => by
    have ih := no_bare all r
    have e := ba_bare all p.1.frm
    simp only [bare, List.map_cons, noC, noBase] at ih e ⊢
    rw [ih, e]
def chE (ls : List Ln) : Nat × Nat :=
  match noC ls ls with
  | some k => (6, k)
  | none => if 0 < lonC ls 6 ls then (7, lonC ls 6 ls) else if 0 < lonC ls 3 ls then (8, lonC ls 3 ls) else (0, 0)
theorem chE_bare (ls : List (Ln × Value)) : chE (bare ls) = chainE ls := by
  unfold chE chainE
  rw [no_bare, lon_bare, lon_bare]
  cases noBase ls ls <;> rfl
def chvC (key : Nat) (other : Int) : List Ln → Int
  | [] => other
  | p :: r => match valL p.sets key with | some n => n | none => chvC key other r
theorem chv_bare (key : Nat) (other : Int) : ∀ ls : List (Ln × Value), chvC key other (bare ls) = chv key other ls
  | [] => rfl
  | p :: r => by
    have ih := chv_bare key other r
    simp only [bare, List.map_cons, chvC, chv] at ih ⊢
    rw [ih]
    cases valL p.1.sets key <;> rfl
def valC (key : Nat) (other : Int) (ss : List (Nat × Nat)) (ch : List Ln) : Int := match valL ss key with | some n => n | none => chvC key other ch
theorem val_bare (key : Nat) (other : Int) (ss : List (Nat × Nat)) (ch : List (Ln × Value)) : valC key other ss (bare ch) = valOf key other ss ch := by
  unfold valC valOf
  rw [chv_bare]
  cases valL ss key <;> rfl
def plC (ls : List Ln) (l : Ln) : Pl :=
  ⟨l.name, valC 0 1 l.sets (chC ls 7 l.frm), valC 1 0 l.sets (chC ls 7 l.frm), valC 2 0 l.sets (chC ls 7 l.frm)⟩
theorem pl_bare (ls : List (Ln × Value)) (l : Ln) : plC (bare ls) l = poolC ls l := by
  unfold plC poolC
  rw [chn_bare, val_bare, val_bare, val_bare]
def stC (all : List Ln) (st : Int × List Pl) (l : Ln) : Int × List Pl :=
  if l.kind = 1 then (valC 3 0 l.sets [], st.2) else if l.kind = 3 then (st.1, insP (plC all l) st.2) else st
def tabC (all : List Ln) : Int × List Pl := all.foldl (stC all) (0, [])
theorem tab_bare (ls : List (Ln × Value)) : tabC (bare ls) = tabTo ls ls.length := by
  unfold tabC tabTo bare
  rw [List.take_length, List.foldl_map]
  congr 1
  funext st p
  unfold stC tabStep
  have e := pl_bare ls p.1
  have e2 := val_bare 3 0 p.1.sets []
  simp only [bare, List.map_nil] at e e2
  rw [e, e2]
structure Ans where
  tab : Int × List Pl
  err : Nat
  at' : Nat
def ans (s : ByteArray) : Ans :=
  if 1000 < s.size then ⟨(0, []), 1, 0⟩
  else if (rd s).err ≠ 0 then ⟨(0, []), (rd s).err, (rd s).at'⟩
  else if (chE (rd s).lines).1 ≠ 0 then ⟨(0, []), (chE (rd s).lines).1, (chE (rd s).lines).2⟩
  else ⟨tabC (rd s).lines, 0, 0⟩
theorem flds_1001 (p : ByteArray) (h : p.size ≤ 1000) : (flds p).length ≤ 1001 := Nat.le_trans (flds_len p) (by omega)
theorem rdC_small : ∀ (ps : List ByteArray) (i : Nat) (acc : List Ln), (∀ p ∈ ps, p.size ≤ 1000) → (∀ l ∈ acc, l.sets.length ≤ 1001) → ∀ l ∈ (rdC i acc ps).lines, l.sets.length ≤ 1001
  | [], i, acc, _, ha, l, hl => by
    rw [rdC] at hl
    split at hl
    · simp at hl
    · exact ha l hl
  | p :: r, i, acc, hp, ha, l, hl => by
    rw [rdC] at hl
    have hr : ∀ q ∈ r, q.size ≤ 1000 := fun q hq => hp q (List.mem_cons_of_mem _ hq)
    split at hl
    · exact rdC_small r _ _ hr ha l hl
    · split at hl
      · simp at hl
      · rename_i l1 hl1
        split at hl
        · refine rdC_small r _ _ hr ?_ l hl
          intro q hq
          rcases List.mem_append.1 hq with h | h
          · exact ha q h
          · simp at h
            subst h
            exact Nat.le_trans (parseF_kind hl1).2.2 (flds_1001 p (hp p List.mem_cons_self))
        · simp at hl
theorem rd_small (s : ByteArray) (hs : s.size ≤ 1000) : ∀ l ∈ (rd s).lines, l.sets.length ≤ 1001 :=
  rdC_small _ _ _ (fun p hp => Nat.le_trans (pieces_small s 10 p hp) hs) (by simp)
def Gave (a : Ans) (w w' : World) (e : Ending) : Prop :=
  ∃ vo vc, e = .returned (.tuple #[.agg #[.int .i64 a.tab.1, .slice vo a.tab.2.length vc], .int .i64 a.err, .int .i64 a.at']) ∧ w'.ownsRow w.heap.size 75 4 (.slice vo a.tab.2.length vc) a.tab.2.length (flatP a.tab.2) ∧ Below w.heap.size w w'
theorem gave_err {w w' : World} {e : Ending} {a : Ans} {x y : Int} (he : e = .returned (.tuple #[.agg #[.int .i64 0, .slice none 0 0], .int .i64 x, .int .i64 y])) (h : a.tab = (0, [])) (hx : x = a.err) (hy : y = a.at') (hb : Below w.heap.size w w') : Gave a w w' e := by
  refine ⟨none, 0, ?_, ?_, hb⟩
  · rw [he, h, hx, hy]; rfl
  · rw [h]; exact World.ownsRow_nil _ _ _ _
set_option maxRecDepth 20000 in
set_option maxHeartbeats 4000000 in
theorem compile_any (s : ByteArray) (w : World) (hs : s.size ≤ maxLen) :
    Calls Tryz.prog 49 #[.string s] w fun e w' => Gave (ans s) w w' e := by
  unfold maxLen at hs
  by_cases hlong : 1000 < s.size
  · have HA : Hid (ans s = ⟨(0, []), 1, 0⟩) := by show _ = _; rw [ans, if_pos hlong]
    have hli : (1000 : Int) < (s.size : Int) := by omega
    go_enter Tryz.func49, Tryz.ntmps49
    go_wp2_with fail
    refine bodyPost_ret (v := .tuple #[.agg #[.int .i64 0, .slice none 0 0], .int .i64 1, .int .i64 0]) (by simp [results, Tryz.results49, go_sem]) rfl ?_
    exact gave_err rfl (by rw [HA.out]) (by rw [HA.out]; rfl) (by rw [HA.out]; rfl) (nx_alloc _ _)
  · have hs2 : s.size ≤ 1000 := by omega
    have hli : ¬ (1000 : Int) < (s.size : Int) := by omega
    have H0 : Hid ((w.alloc (bTab 0 (.slice none 0 0))).heap[w.heap.size]? = some (bTab 0 (.slice none 0 0))) := heap_alloc_at' _ _ rfl
    have HRL := hideIt (readLines_any s (w.alloc (bTab 0 (.slice none 0 0))) hs2)
    have HSM := hideIt (rd_small s hs2)
    have HAA : Hid (ans s = if (rd s).err ≠ 0 then ⟨(0, []), (rd s).err, (rd s).at'⟩ else if (chE (rd s).lines).1 ≠ 0 then ⟨(0, []), (chE (rd s).lines).1, (chE (rd s).lines).2⟩ else ⟨tabC (rd s).lines, 0, 0⟩) := by
      show _ = _; rw [ans, if_neg hlong]
    clear hlong
    go_enter Tryz.func49, Tryz.ntmps49
    go_wp2_with fail
    refine HRL.out.mono ?_
    rintro e w1 (⟨hbad, rfl, hb1⟩ | ⟨ls, ao, cap, hz, hls, hn1, hn0, rfl, hl, hb1⟩)
    · obtain ⟨er, her⟩ : ∃ er, (rd s).err = er := ⟨_, rfl⟩
      obtain ⟨pl, hpl⟩ : ∃ pl, (rd s).at' = pl := ⟨_, rfl⟩
      rw [her] at hbad
      rw [her, hpl]
      have HA : Hid (ans s = ⟨(0, []), er, pl⟩) := by show _ = _; rw [HAA.out, her, hpl, if_pos hbad]
      have hh0 : w1.heap[w.heap.size]? = some (bTab 0 (.slice none 0 0)) := (hb1.block _ (by simp)).trans H0.out
      obtain ⟨e0, e1, ze⟩ := blk2 hh0
      have herb : ((er : Int) != 0) = true := by rw [bne_iff_ne]; omega
      have HB : Hid (Below w.heap.size w w1) := nx_trans (nx_alloc _ _) hb1
      clear hb1 her hpl hbad hh0
      go_wp2_with fail
      refine bodyPost_ret (v := .tuple #[.agg #[.int .i64 0, .slice none 0 0], .int .i64 er, .int .i64 pl]) (by simp [results, Tryz.results49, go_sem, e0, e1]) rfl ?_
      exact gave_err rfl (by rw [HA.out]) (by rw [HA.out]) (by rw [HA.out]) ((HB.out.setCell (Nat.le_refl _) _).setCell (Nat.le_refl _) _)
    · obtain ⟨n, hn⟩ : ∃ n, ls.length = n := ⟨_, rfl⟩
      have HSL : Hid (∀ p ∈ ls, p.1.sets.length ≤ 1001) := by
        intro p hp
        exact HSM.out p.1 (by rw [hls]; exact List.mem_map_of_mem hp)
      have HAB : Hid (ans s = if (chainE ls).1 ≠ 0 then ⟨(0, []), (chainE ls).1, (chainE ls).2⟩ else ⟨tabTo ls n, 0, 0⟩) := by
        show _ = _
        rw [HAA.out, if_neg (by simp [hz]), hls, chE_bare, tab_bare, hn]
      rw [hn] at hl hn1 ⊢
      have HL : Hid (LinesAt w1 (.slice ao n cap) ls ∧ ls.length = n) := ⟨hl, hn⟩
      have hh0 : w1.heap[w.heap.size]? = some (bTab 0 (.slice none 0 0)) := (hb1.block _ (by simp)).trans H0.out
      have hlt1 : w.heap.size < w1.heap.size := sz_lt hb1
      have HB : Hid (Below w.heap.size w w1 ∧ w1.heap[w.heap.size]? = some (bTab 0 (.slice none 0 0))) := ⟨nx_trans (nx_alloc _ _) hb1, hh0⟩
      have HCF := hideIt (chainFault_any ao cap n ls w1 hl hn hn1)
      clear hl hn hls hz hb1 hh0 HAA
      go_wp2_with fail
      refine HCF.out.mono ?_
      rintro e w2 ⟨rfl, hb2⟩
      obtain ⟨⟨er, pl⟩, hce⟩ : ∃ ce, chainE ls = ce := ⟨_, rfl⟩
      rw [hce]
      simp only
      have hh0 : w2.heap[w.heap.size]? = some (bTab 0 (.slice none 0 0)) := (hb2.block _ hlt1).trans HB.out.2
      by_cases her : er = 0
      · have HA : Hid (ans s = ⟨tabTo ls n, 0, 0⟩) := by show _ = _; rw [HAB.out, hce, if_neg (by simp [her])]
        have HTO := hideIt (tableOf_any ao cap n ls w2 (HL.out.1.nx hb2) HL.out.2 hn1 HSL.out)
        have HB2 : Hid (Below w.heap.size w w2 ∧ w.heap.size < w2.heap.size ∧ w2.heap[w.heap.size]? = some (bTab 0 (.slice none 0 0))) := ⟨nx_trans HB.out.1 hb2, Nat.lt_of_lt_of_le hlt1 hb2.size, hh0⟩
        subst her
        clear hce hh0 hb2
        go_wp2_with fail
        refine HTO.out.mono ?_
        rintro e w3 ⟨vo, vc, rfl, hown, hb3⟩
        have hh0 : w3.heap[w.heap.size]? = some (bTab 0 (.slice none 0 0)) := (hb3.block _ HB2.out.2.1).trans HB2.out.2.2
        obtain ⟨e0, e1, ze⟩ := blk2 hh0
        obtain ⟨⟨b, ps⟩, htb⟩ : ∃ tb, tabTo ls n = tb := ⟨_, rfl⟩
        rw [htb] at HA hown ⊢
        simp only at hown ⊢
        obtain ⟨m, hm⟩ : ∃ m, ps.length = m := ⟨_, rfl⟩
        rw [hm] at hown ⊢
        have HO : Hid (w3.ownsRow w2.heap.size 75 4 (.slice vo m vc) m (flatP ps) ∧ Below w.heap.size w w3 ∧ ps.length = m) := ⟨hown, nx_trans HB2.out.1 hb3, hm⟩
        clear hown hb3 htb hm hh0
        go_wp2_with fail
        refine bodyPost_ret (v := .tuple #[.agg #[.int .i64 b, .slice vo m vc], .int .i64 0, .int .i64 0]) (by simp [results, Tryz.results49, go_sem, e0, e1]) rfl ⟨vo, vc, ?_, ?_, ?_⟩
        · rw [HA.out]; simp only; rw [HO.out.2.2]; rfl
        · rw [HA.out]; simp only; rw [HO.out.2.2]
          exact own_mono (ownsRow_setCell_below (ownsRow_setCell_below HO.out.1 (by show w.heap.size < _; exact HB2.out.2.1) _) (by show w.heap.size < _; exact HB2.out.2.1) _) (Nat.le_of_lt HB2.out.2.1)
        · exact (HO.out.2.1.setCell (Nat.le_refl _) _).setCell (Nat.le_refl _) _
      · have HA : Hid (ans s = ⟨(0, []), er, pl⟩) := by show _ = _; rw [HAB.out, hce, if_pos her]
        obtain ⟨e0, e1, ze⟩ := blk2 hh0
        have herb : ((er : Int) != 0) = true := by rw [bne_iff_ne]; omega
        have HB2 : Hid (Below w.heap.size w w2) := nx_trans HB.out.1 hb2
        clear hce her hh0 hb2
        go_wp2_with fail
        refine bodyPost_ret (v := .tuple #[.agg #[.int .i64 0, .slice none 0 0], .int .i64 er, .int .i64 pl]) (by simp [results, Tryz.results49, go_sem, e0, e1]) rfl ?_
        exact gave_err rfl (by rw [HA.out]) (by rw [HA.out]) (by rw [HA.out]) ((HB2.out.setCell (Nat.le_refl _) _).setCell (Nat.le_refl _) _)
set_option maxRecDepth 20000 in
set_option maxHeartbeats 4000000 in
theorem pcompile_any (s : ByteArray) (w : World) (hs : s.size ≤ maxLen) :
    Calls Tryz.prog 25 #[.string s] w fun e w' => Gave (ans s) w w' e := by
  have HC := hideIt (compile_any s (w.alloc (bTab 0 (.slice none 0 0))) hs)
  have H0 : Hid ((w.alloc (bTab 0 (.slice none 0 0))).heap[w.heap.size]? = some (bTab 0 (.slice none 0 0))) := heap_alloc_at' _ _ rfl
  unfold maxLen at hs
  go_enter Tryz.func25, Tryz.ntmps25
  go_wp2_with fail
  refine HC.out.mono ?_
  rintro e w1 ⟨vo, vc, rfl, hown, hb1⟩
  obtain ⟨⟨⟨b, ps⟩, er, pl⟩, ha⟩ : ∃ a, ans s = a := ⟨_, rfl⟩
  rw [ha] at hown ⊢
  simp only at hown ⊢
  obtain ⟨m, hm⟩ : ∃ m, ps.length = m := ⟨_, rfl⟩
  rw [hm] at hown ⊢
  have hh0 : w1.heap[w.heap.size]? = some (bTab 0 (.slice none 0 0)) := (hb1.block _ (by simp)).trans H0.out
  obtain ⟨e0, e1, ze⟩ := blk2 hh0
  have HO : Hid (w1.ownsRow (w.heap.size + 1) 75 4 (.slice vo m vc) m (flatP ps) ∧ Below w.heap.size w w1 ∧ ps.length = m) := ⟨by simpa using hown, nx_trans (nx_alloc _ _) hb1, hm⟩
  have HA := hideIt ha
  clear hown hb1 hm hh0 ha
  go_wp2_with fail
  refine bodyPost_ret (v := .tuple #[.agg #[.int .i64 b, .slice vo m vc], .int .i64 er, .int .i64 pl]) (by simp [results, Tryz.results25, go_sem, e0, e1]) rfl ⟨vo, vc, ?_, ?_, ?_⟩
  · rw [HA.out]; simp only; rw [HO.out.2.2]
  · rw [HA.out]; simp only; rw [HO.out.2.2]
    exact own_mono (ownsRow_setCell_below (ownsRow_setCell_below HO.out.1 (by show w.heap.size < _; omega) _) (by show w.heap.size < _; omega) _) (by omega)
  · exact (HO.out.2.1.setCell (Nat.le_refl _) _).setCell (Nat.le_refl _) _
end Co
end Go.Proofs.YtohbonfngeblkaaGreat
