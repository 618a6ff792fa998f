import Derived.Test.YtohbonfngeblkaaGreatMnY
import Derived.Deep.RegionWith
import Derived.Deep.DeepCutAuto
import Derived.Deep.CutBlock
import Derived.Deep.RegionHeld3
import Derived.BigCall
import Derived.Laws.AppendOwnNone
namespace Go.Proofs.YtohbonfngeblkaaGreat
open Go.RowKit
namespace Co
def Ex (lo hi n v : Int) : Prop := lo ≤ n → n ≤ hi → v = n
set_option maxRecDepth 20000 in
set_option maxHeartbeats 400000 in
theorem bent_ex (n lo hi : Int) (w : World) (hc : I64 n) (hl : 0 ≤ lo) (hh : lo ≤ hi) (h9 : hi ≤ 999) :
    Calls Tryz.prog 58 #[.int .i64 n, .int .i64 lo, .int .i64 hi] w fun e w' => (∃ r, lo ≤ r ∧ r ≤ hi ∧ e = .returned (.int .i64 r) ∧ Ex lo hi n r) ∧ w' = w := by
  have HP := hideIt (pick_any n (hi - lo + 1) w hc (by omega) (by omega))
  by_cases ha : lo ≤ n
  · by_cases hb : n ≤ hi
    · go_enter Tryz.func58, Tryz.ntmps58
      go_wp2_with fail
      go_ret
      exact ⟨⟨n, ha, hb, rfl, fun _ _ => rfl⟩, rfl⟩
    · go_enter Tryz.func58, Tryz.ntmps58
      go_wp2_with fail
      refine HP.out.mono ?_
      rintro e w1 ⟨⟨r, h1, h2, rfl⟩, rfl⟩
      go_wp2_with fail
      go_ret
      exact ⟨⟨lo + r, by omega, by omega, rfl, fun _ h => by omega⟩, rfl⟩
  · go_enter Tryz.func58, Tryz.ntmps58
    go_wp2_with fail
    refine HP.out.mono ?_
    rintro e w1 ⟨⟨r, h1, h2, rfl⟩, rfl⟩
    go_wp2_with fail
    go_ret
    exact ⟨⟨lo + r, by omega, by omega, rfl, fun h => by omega⟩, rfl⟩
theorem nm_take {s : ByteArray} (h : isNm s = true) (k : Nat) (hk : k < s.size) : (97 : Int) ≤ (s[k].toNat : Int) ∧ (s[k].toNat : Int) ≤ 122 := by
  refine Classical.byContradiction fun hn => ?_
  have := lets_bad s k hk (by omega)
  rw [h] at this
  exact absurd this (by simp)
theorem nm_sz {s : ByteArray} (h : isNm s = true) : 1 ≤ s.size ∧ s.size ≤ 8 := by
  simp [isNm] at h
  exact h.1
set_option maxRecDepth 20000 in
set_option maxHeartbeats 800000 in
theorem knamed_id (s : ByteArray) (w : World) (hs : isNm s = true) :
    Calls Tryz.prog 59 #[.string s] w fun e w' => e = .returned (.string s) ∧ Below w.heap.size w w' := by
  have hsz := nm_sz hs
  have HS := hideIt hs
  clear hs
  go_enter Tryz.func59, Tryz.ntmps59
  go_wp2_with fail
  go_loopw [3, 4] (fun o i wr => ∃ (k : Nat) (t : ByteArray), k ≤ s.size ∧ i = .int .i64 k ∧ o = .string t ∧ Hid (t.size = k ∧ t.data.toList = s.data.toList.take k) ∧ Below w.heap.size w wr) (fun _ i _ => s.size - (intOf i).toNat)
  case atStart => exact ⟨0, ⟨#[]⟩, Nat.zero_le _, rfl, rfl, ⟨rfl, by simp⟩, Below.refl _ _⟩
  case round =>
    obtain ⟨k, t, hk, rfl, rfl, hl, hb⟩ := hrel
    have hts : ¬ 9223372036854775807 < t.size + 1 := by have := hl.out.1; omega
    by_cases hlt : k < s.size
    · have hl8 : k < 8 := by omega
      have hc := conv_byte wr (s[k].toNat : Int) (by omega) (by have := UInt8.toNat_lt s[k]; omega)
      obtain ⟨h1, h2⟩ := nm_take HS.out k hlt
      go_wp2_with fail
      go_round
      case rel =>
        refine ⟨k + 1, t ++ ⟨#[s[k]]⟩, by omega, by go_num, rfl, ⟨?_, ?_⟩, hb.alloc (hb.size) _⟩
        · rw [ByteArray.size_append, hl.out.1]; rfl
        · rw [take_snoc s k hlt, ← hl.out.2]
          simp [ByteArray.data_append]
      case measure => simp [intOf]; omega
    · have he : t.toList.isEmpty = false := by
        have := hl.out.1
        cases h : t.toList.isEmpty with
        | false => rfl
        | true => exact absurd (size_isEmpty h) (by omega)
      have HT : Hid (t = s) := by
        have h2 := hl.out.2
        rw [take_all s k hlt] at h2
        exact Go.WideShapes.bytes_inj h2
      go_wp2_with fail
      go_ret
      exact ⟨by rw [HT.out]; rfl, hb⟩
theorem knamed_ex (s : ByteArray) (w : World) :
    Calls Tryz.prog 59 #[.string s] w fun e w' => (∃ r, isNm r = true ∧ e = .returned (.string r) ∧ (isNm s = true → r = s)) ∧ Below w.heap.size w w' := by
  by_cases h : isNm s = true
  · refine (knamed_id s w h).mono ?_
    rintro e w1 ⟨rfl, hb⟩
    exact ⟨⟨s, h, rfl, fun _ => rfl⟩, hb⟩
  · refine (knamed_any s w).mono ?_
    rintro e w1 ⟨⟨r, hr, rfl⟩, hb⟩
    exact ⟨⟨r, hr, rfl, fun hs => absurd hs h⟩, hb⟩
def GoodT (xs : List Pl) : Prop := (∀ x ∈ xs, Okp x) ∧ xs.Pairwise (fun a b => a.nm ≠ b.nm) ∧ xs.length ≤ 6
def insAll (xs : List Pl) : List Pl := xs.foldl (fun a p => insP p a) []
theorem insAll_snoc (xs : List Pl) (p : Pl) : insAll (xs ++ [p]) = insP p (insAll xs) := by simp [insAll]
theorem insAll_len (xs : List Pl) : (insAll xs).length = xs.length := by
  have h : ∀ (xs a : List Pl), (xs.foldl (fun a p => insP p a) a).length = a.length + xs.length := by
    intro xs
    induction xs with
    | nil => simp
    | cons x r ih => intro a; simp [ih, insP_len]; omega
  rw [insAll, h]; simp
theorem insP_mem (p x : Pl) : ∀ l : List Pl, x ∈ insP p l ↔ x = p ∨ x ∈ l
  | [] => by simp [insP]
  | q :: r => by
    rw [insP]
    split
    · simp
    · rw [List.mem_cons, insP_mem p x r, List.mem_cons]
      constructor
      · rintro (h | h | h)
        · exact .inr (.inl h)
        · exact .inl h
        · exact .inr (.inr h)
      · rintro (h | h | h)
        · exact .inr (.inl h)
        · exact .inl h
        · exact .inr (.inr h)
theorem insAll_mem (x : Pl) (xs : List Pl) : x ∈ insAll xs ↔ x ∈ xs := by
  have h : ∀ (xs a : List Pl), x ∈ xs.foldl (fun a p => insP p a) a ↔ x ∈ a ∨ x ∈ xs := by
    intro xs
    induction xs with
    | nil => simp
    | cons y r ih =>
      intro a
      rw [List.foldl_cons, ih, insP_mem, List.mem_cons]
      constructor
      · rintro ((h | h) | h)
        · exact .inr (.inl h)
        · exact .inl h
        · exact .inr (.inr h)
      · rintro (h | h | h)
        · exact .inl (.inr h)
        · exact .inl (.inl h)
        · exact .inr h
  rw [insAll, h]; simp
theorem insP_at (p : Pl) : ∀ (ps : List Pl) (j : Nat), (∀ x ∈ ps.take j, lt x.nm p.nm = true) → (∀ x ∈ ps.drop j, lt p.nm x.nm = true) → insP p ps = ps.take j ++ [p] ++ ps.drop j
  | [], j, _, _ => by simp [insP]
  | q :: r, 0, _, h2 => by
    rw [insP_yes (h2 q (by simp))]; simp
  | q :: r, j + 1, h1, h2 => by
    rw [insP_no (lt_asym (h1 q (by simp))), insP_at p r j (fun x hx => h1 x (by simp [hx])) (fun x hx => h2 x (by simpa using hx))]
    simp
theorem bytes_eq {a b : ByteArray} (h : (a.toList == b.toList) = true) : a = b := by
  have h1 : a.toList = b.toList := by simpa using h
  rw [tl_toList, tl_toList] at h1
  exact Go.WideShapes.bytes_inj h1
theorem good_new {xs : List Pl} (h : GoodT xs) {k : Nat} {x y : Pl} (hx : xs[k]? = some x) (hy : y ∈ insAll (xs.take k)) : y.nm ≠ x.nm := by
  rw [insAll_mem] at hy
  obtain ⟨i, hi, rfl⟩ := List.mem_take_iff_getElem.1 hy
  obtain ⟨hk, rfl⟩ := List.getElem?_eq_some_iff.1 hx
  exact List.pairwise_iff_getElem.1 h.2.1 i k (by omega) hk (by omega)
theorem okq_ex {xn : ByteArray} {xs0 xw xf a b c : Int} (h1 : Ex 0 20 xs0 a) (h2 : Ex 0 20 xw b) (h3 : Ex 0 999 xf c) : Okp ⟨xn, xs0, xw, xf⟩ → a = xs0 ∧ b = xw ∧ c = xf :=
  fun h => ⟨h1 h.s0 h.s1, h2 h.w0 h.w1, h3 h.f0 h.f1⟩
set_option maxRecDepth 20000 in
set_option maxHeartbeats 4000000 in
theorem Bent_ex (b : Int) (xs : List Pl) (ao : Option Addr) (cap n : Nat) (w : World) (hr : RowAt w (.slice ao n cap) n (flatP xs)) (hn : xs.length = n) (hn1 : n ≤ maxLen) (hb : I64 b) (hx : ∀ x ∈ xs, I64 x.sz ∧ I64 x.wt ∧ I64 x.fr) :
    Calls Tryz.prog 28 #[.agg #[.int .i64 b, .slice ao n cap]] w fun e w' => ∃ r ps vo vc, Okt r ps ∧ e = .returned (.agg #[.int .i64 r, .slice vo ps.length vc]) ∧ w'.ownsRow w.heap.size 75 4 (.slice vo ps.length vc) ps.length (flatP ps) ∧ Below w.heap.size w w' ∧ (1 ≤ b → b ≤ 99 → GoodT xs → r = b ∧ ps = insAll xs) := by
  unfold maxLen at hn1
  have HB := hideIt (bent_ex b 1 99 ((w.alloc (bTab b (.slice ao n cap))).alloc (bTab 0 (.slice none 0 0))) hb (by omega) (by omega) (by omega))
  have HX := hideIt hx
  have HR : Hid (RowAt w (.slice ao n cap) n (flatP xs) ∧ xs.length = n) := ⟨hr, hn⟩
  clear hr hn hb hx
  go_enter Tryz.func28, Tryz.ntmps28
  go_wp2_with fail
  refine HB.out.mono ?_
  rintro e w1 ⟨⟨r, hr1, hr2, rfl, hrx⟩, rfl⟩
  have HRX := hideIt hrx
  clear hrx
  go_wp2_with fail
  go_loopw [4] (fun i wr => ∃ (k m : Nat) (ps : List Pl) (vo : Option Addr) (vc : Nat), k ≤ n ∧ i = .int .i64 k ∧ m ≤ 6 ∧ Hid (Okt r ps ∧ ps.length = m) ∧ Hid (BS w b (.slice ao n cap) r (.slice vo m vc) m ps wr) ∧ Hid (GoodT xs → ps = insAll (xs.take k))) (fun i _ => n - (intOf i).toNat)
  case atStart =>
    refine ⟨0, 0, [], none, 0, Nat.zero_le _, rfl, Nat.zero_le _, ⟨⟨hr1, hr2, by simp, by simp, by simp⟩, rfl⟩, ?_, fun _ => rfl⟩
    have hB : Below w.heap.size w (((w.alloc (bTab b (.slice ao n cap))).alloc (bTab 0 (.slice none 0 0))).alloc (bTab r (.slice none 0 0))) := nx_trans (nx_trans (nx_alloc _ _) (nx_alloc _ _)) (nx_alloc _ _)
    refine ⟨?_, ?_, ?_, World.ownsRow_nil _ _ _ _, hB, by simp⟩
    · exact (heap_alloc_lt _ _ (by simp; omega)).trans ((heap_alloc_lt _ _ (by simp)).trans (heap_alloc_at _ _ rfl))
    · exact (heap_alloc_lt _ _ (by simp)).trans (heap_alloc_at _ _ (by simp))
    · exact heap_alloc_at _ _ (by simp)
  case round =>
    obtain ⟨k, m, ps, vo, vc, hk, rfl, hm6, HO, HS, HGD⟩ := hrel
    obtain ⟨a0, a1, az⟩ := blk2 HS.out.h0
    obtain ⟨b0, b1, bz⟩ := blk2 HS.out.h1
    obtain ⟨c0, c1, cz⟩ := blk2 HS.out.h2
    have hsz : w.heap.size + 3 ≤ wr.heap.size := HS.out.sz
    by_cases hgo : k < n ∧ m < 6
    · obtain ⟨hkn, hm⟩ := hgo
      obtain ⟨x, hx⟩ : ∃ x, xs[k]? = some x := ⟨_, List.getElem?_eq_getElem (by rw [HR.out.2]; exact hkn)⟩
      have HXI := hideIt (HX.out x (List.mem_of_getElem? hx))
      obtain ⟨bl, off, rfl, hbl, d0, d1, d2, d3⟩ := pool_at (HR.out.1.nx HS.out.bel) hx
      obtain ⟨xn, xs0, xw, xf⟩ := x
      have HXK := hideIt hx
      clear hx
      simp only at d0 d1 d2 d3
      have HNM := hideIt (knamed_ex xn (wr.alloc (bPl ⟨xn, xs0, xw, xf⟩)))
      go_wp2_with fail
      refine HNM.out.mono ?_
      rintro e w2 ⟨⟨nm, hnm, rfl, hnx⟩, hb2⟩
      have HNX := hideIt hnx
      clear hnx
      have HS2 : Hid (BS w b (.slice (some ⟨bl, off, none⟩) n cap) r (.slice vo m vc) m ps w2 ∧ w2.heap[wr.heap.size]? = some (bPl ⟨xn, xs0, xw, xf⟩) ∧ wr.heap.size < w2.heap.size ∧ isNm nm = true) :=
        ⟨HS.out.nx (nx_trans (nx_alloc _ _) hb2), (hb2.block _ (by simp)).trans (heap_alloc_at _ _ rfl), sz_lt hb2, hnm⟩
      clear a0 a1 az b0 b1 bz c0 c1 cz d0 d1 d2 d3 hb2 hnm hbl HNM
      obtain ⟨c0, c1, cz⟩ := blk2 HS2.out.1.h2
      go_upto_block 2 with fail
      go_cut [7] (fun i wx => ∃ j : Nat, i = .int .i64 j ∧ j ≤ m ∧ Hid ((∀ x ∈ ps.take j, lt x.nm nm = true) ∧ ∀ y, ps[j]? = some y → lt y.nm nm = false) ∧ w2 = wx)
      case first =>
        go_wp2_with fail
        go_loop [7] (fun i => ∃ j : Nat, i = .int .i64 j ∧ j ≤ m ∧ Hid (∀ x ∈ ps.take j, lt x.nm nm = true)) (fun i => m - (intOf i).toNat)
        case atStart => exact ⟨0, rfl, Nat.zero_le _, by intro x hx; simp at hx⟩
        case round =>
          obtain ⟨j, rfl, hj, HJ⟩ := hrel
          by_cases hjm : j < m
          · obtain ⟨y, hy⟩ : ∃ y, ps[j]? = some y := ⟨_, List.getElem?_eq_getElem (by rw [HO.out.2]; exact hjm)⟩
            obtain ⟨bl2, off2, rfl, hbl2, f0, _, _, _⟩ := pool_at (own_row HS2.out.1.own) hy
            cases hlt : lt y.nm nm with
            | true =>
              have hlb : Op.bytesLess y.nm.toList nm.toList = true := hlt
              have HN : Hid (∀ x ∈ ps.take (j + 1), lt x.nm nm = true) := by
                obtain ⟨hk', e⟩ := List.getElem?_eq_some_iff.1 hy
                intro x hx
                rw [List.take_succ_eq_append_getElem hk', e] at hx
                rcases List.mem_append.1 hx with h | h
                · exact HJ.out x h
                · simp at h; subst h; exact hlt
              clear hy hlt
              go_wp2_with fail
              go_round
              case rel => exact ⟨j + 1, by go_num, by omega, HN.out⟩
              case measure => simp [intOf]; omega
            | false =>
              have hlb : Op.bytesLess y.nm.toList nm.toList = false := hlt
              have HN : Hid (∀ z, ps[j]? = some z → lt z.nm nm = false) := by
                intro z hz
                rw [hy] at hz
                obtain rfl := Option.some.inj hz
                exact hlt
              clear hy hlt
              go_wp2_with fail
              go_meet
              exact ⟨j, rfl, hj, ⟨HJ.out, HN.out⟩, rfl⟩
          · have HN : Hid (∀ z, ps[j]? = some z → lt z.nm nm = false) := by
              intro z hz
              have := (List.getElem?_eq_some_iff.1 hz).1
              rw [HO.out.2] at this
              exact absurd this hjm
            go_wp2_with fail
            go_meet
            exact ⟨j, rfl, hj, ⟨HJ.out, HN.out⟩, rfl⟩
      case rest =>
        obtain ⟨j, rfl, hj, HJ, rfl⟩ := hcut
        go_upto_region 10 with fail
        go_cut [66] (fun bb wx => ∃ e : Bool, bb = .bool e ∧ Hid ((e = false → ∀ x ∈ ps.drop j, lt nm x.nm = true) ∧ (e = true → ∃ y ∈ ps, (y.nm.toList == nm.toList) = true)) ∧ w2 = wx)
        case first =>
          by_cases hjm : j < m
          · obtain ⟨y, hy⟩ : ∃ y, ps[j]? = some y := ⟨_, List.getElem?_eq_getElem (by rw [HO.out.2]; exact hjm)⟩
            obtain ⟨bl2, off2, rfl, hbl2, f0, _, _, _⟩ := pool_at (own_row HS2.out.1.own) hy
            have HN : Hid ((y.nm.toList == nm.toList) = false → ∀ x ∈ ps.drop j, lt nm x.nm = true) := fun h => drop_up HO.out.1.up hy (lt_total (HJ.out.2 y hy) h)
            obtain ⟨eq, heq⟩ : ∃ e, (y.nm.toList == nm.toList) = e := ⟨_, rfl⟩
            rw [heq] at HN
            have HY : Hid (eq = true → ∃ y ∈ ps, (y.nm.toList == nm.toList) = true) := fun h => ⟨y, List.mem_of_getElem? hy, heq.trans h⟩
            clear hy
            go_wp2_with fail
            go_meet
            exact ⟨eq, rfl, ⟨HN.out, HY.out⟩, rfl⟩
          · have HN : Hid (∀ x ∈ ps.drop j, lt nm x.nm = true) := by
              rw [List.drop_of_length_le (by rw [HO.out.2]; omega)]
              intro x hx
              simp at hx
            go_wp2_with fail
            go_meet
            exact ⟨false, rfl, ⟨fun _ => HN.out, fun h => by cases h⟩, rfl⟩
        case rest =>
          obtain ⟨eq, rfl, HE, rfl⟩ := hcut
          cases eq with
          | true =>
            have HNG : Hid (GoodT xs → ps = insAll (xs.take (k + 1))) := by
              intro hg
              obtain ⟨y, hy, he⟩ := HE.out.2 rfl
              rw [HGD.out hg] at hy
              have h1 := good_new hg HXK.out hy
              have h2 := HNX.out (hg.1 _ (List.mem_of_getElem? HXK.out)).nm
              rw [h2] at he
              exact absurd (bytes_eq he) h1
            clear HE HNX
            go_wp2_with fail
            go_roundw
            case rel => exact ⟨k + 1, m, ps, vo, vc, by omega, by go_num, hm6, HO.out, HS2.out.1, HNG.out⟩
            case measure => simp [intOf]; omega
          | false =>
            have HBS := hideIt (fun W => bent_ex xs0 0 20 W HXI.out.1 (by omega) (by omega) (by omega))
            have HBW := hideIt (fun W => bent_ex xw 0 20 W HXI.out.2.1 (by omega) (by omega) (by omega))
            have HBF := hideIt (fun W => bent_ex xf 0 999 W HXI.out.2.2 (by omega) (by omega) (by omega))
            obtain ⟨e0, e1, e2, e3, ze⟩ := blk4 (Below.refl _ w2) HS2.out.2.2.1 HS2.out.2.1
            go_upto_region 11 with fail
            go_cut [8] (fun pv wx => ∃ q : Pl, pv = .pointer (some ⟨w2.heap.size, 0, none⟩) ∧ Hid (Okp q ∧ q.nm = nm ∧ (Okp ⟨xn, xs0, xw, xf⟩ → q.sz = xs0 ∧ q.wt = xw ∧ q.fr = xf)) ∧ w2.drew.alloc (bPl q) = wx)
            case first =>
              have HNM2 := hideIt HS2.out.2.2.2
              have n1 := World.new_ne w2 _ e1
              have n2 := World.new_ne w2 _ e2
              have n3 := World.new_ne w2 _ e3
              clear HR HX HO HS HS2 HJ HE HXI e0 ze c0 c1 cz HGD HXK HNX HRX
              go_region_held3 (fun w' => w'.cell? ⟨wr.heap.size, 1, none⟩ = some (.int .i64 xs0) ∧ w'.cell? ⟨wr.heap.size, 2, none⟩ = some (.int .i64 xw) ∧ w'.cell? ⟨wr.heap.size, 3, none⟩ = some (.int .i64 xf)) (go_keep)
                (first
                | (go_at_call_of 58 (Value.int .i64 xs0); refine (HBS.out _).mono ?_; rintro e w9 ⟨⟨v, hv1, hv2, rfl, hv3⟩, rfl⟩)
                | (go_at_call_of 58 (Value.int .i64 xw); refine (HBW.out _).mono ?_; rintro e w9 ⟨⟨v, hv1, hv2, rfl, hv3⟩, rfl⟩)
                | (go_at_call_of 58 (Value.int .i64 xf); refine (HBF.out _).mono ?_; rintro e w9 ⟨⟨v, hv1, hv2, rfl, hv3⟩, rfl⟩))
              all_goals
                go_wp2_with fail
                go_meet
                exact ⟨⟨nm, _, _, _⟩, rfl, ⟨⟨HNM2.out, by assumption, by assumption, by assumption, by assumption, by assumption, by assumption⟩, rfl, okq_ex (by assumption) (by assumption) (by assumption)⟩, rfl⟩
            case rest =>
              obtain ⟨q, rfl, HQ, rfl⟩ := hcut
              have HS3 : Hid (BS w b (.slice (some ⟨bl, off, none⟩) n cap) r (.slice vo m vc) m ps (w2.drew.alloc (bPl q))) := HS2.out.1.nx (nx_trans (Below.refl _ _).drew (nx_alloc _ _))
              have HQB : Hid ((w2.drew.alloc (bPl q)).heap[w2.heap.size]? = some (bPl q) ∧ w2.heap.size < (w2.drew.alloc (bPl q)).heap.size) := ⟨heap_alloc_at _ _ rfl, by simp⟩
              obtain ⟨w3, hw3⟩ : ∃ w3, w2.drew.alloc (bPl q) = w3 := ⟨_, rfl⟩
              rw [hw3] at HS3 HQB ⊢
              clear hw3 HS2 e0 e1 e2 e3 ze c0 c1 cz HBS HBW HBF
              obtain ⟨nm', qs, qw, qf⟩ := q
              obtain ⟨b2, hb2⟩ : ∃ b2, w2.heap.size = b2 := ⟨_, rfl⟩
              rw [hb2] at HQB ⊢
              clear hb2
              obtain ⟨e0, e1, e2, e3, ze⟩ := blk4 (Below.refl _ w3) HQB.out.2 HQB.out.1
              obtain ⟨c0, c1, cz⟩ := blk2 HS3.out.h2
              have hvo : (vo = none ∧ m = 0 ∧ vc = 0) ∨ ∃ g, vo = some ⟨g, 0, none⟩ := by
                rcases HS3.out.own.2 with ⟨h, h'⟩ | ⟨g, cp, cur, h, _⟩
                · simp only [Value.slice.injEq] at h
                  exact .inl ⟨h.1, h', h.2.2⟩
                · simp only [Value.slice.injEq] at h
                  exact .inr ⟨g, h.1⟩
              obtain ⟨qq, hqq⟩ : ∃ qq : Pl, qq = ⟨nm', qs, qw, qf⟩ := ⟨_, rfl⟩
              have HEND : Hid (∀ (v' : Value) (W : World), W.ownsRow w3.heap.size 75 4 v' (m + 1) (flatP (ps.take j ++ [qq] ++ ps.drop j)) → Below w3.heap.size w3 W → Okt r (ps.take j ++ [qq] ++ ps.drop j) ∧ (ps.take j ++ [qq] ++ ps.drop j).length = m + 1 ∧ BS w b (.slice (some ⟨bl, off, none⟩) n cap) r v' (m + 1) (ps.take j ++ [qq] ++ ps.drop j) (W.setCell ⟨w.heap.size + 2, 1, none⟩ v')) := by
                intro v' W hown hbW
                have hl : (ps.take j ++ [qq] ++ ps.drop j).length = m + 1 := by
                  simp; have := HO.out.2; omega
                rw [← hqq] at HQ
                have hq := HQ.out.1
                have hqn := HQ.out.2.1
                refine ⟨⟨hr1, hr2, by rw [hl]; omega, ?_, ?_⟩, hl, (HS3.out.nx hbW).put hown HS3.out.sz⟩
                · intro x hx
                  rcases List.mem_append.1 hx with hx | hx
                  · rcases List.mem_append.1 hx with hx | hx
                    · exact HO.out.1.ok x (List.mem_of_mem_take hx)
                    · simp at hx; subst hx; exact hq
                  · exact HO.out.1.ok x (List.mem_of_mem_drop hx)
                · have := put_up (p := qq) HO.out.1.up (by rw [hqn]; exact HJ.out.1) (by rw [hqn]; exact HE.out.1 rfl)
                  simpa using this
              have HGN : Hid (GoodT xs → ps.take j ++ [qq] ++ ps.drop j = insAll (xs.take (k + 1))) := by
                intro hg
                have hxo := hg.1 _ (List.mem_of_getElem? HXK.out)
                have h2 := HNX.out hxo.nm
                obtain ⟨hk', e⟩ := List.getElem?_eq_some_iff.1 HXK.out
                rw [List.take_succ_eq_append_getElem hk', e, insAll_snoc, ← HGD.out hg]
                have hqe : qq = ⟨xn, xs0, xw, xf⟩ := by
                  have h3 := HQ.out.2.2 hxo
                  have h4 := HQ.out.2.1
                  rw [hqq]
                  simp only at h3 h4
                  rw [h3.1, h3.2.1, h3.2.2, h4, h2]
                rw [← hqe]
                exact (insP_at qq ps j (by rw [hqe]; show ∀ x ∈ ps.take j, lt x.nm xn = true; rw [← h2]; exact HJ.out.1) (by rw [hqe]; show ∀ x ∈ ps.drop j, lt xn x.nm = true; rw [← h2]; exact HE.out.1 rfl)).symm
              have HQQ := hideIt hqq
              clear hqq
              rcases hvo with ⟨rfl, rfl, rfl⟩ | ⟨g, rfl⟩
              · obtain rfl : j = 0 := by omega
                go_wp2_with (at_builtin; refine append_row rfl (.tmp 78) (.tmp 82) rfl w3.heap.size (.slice none 0 0) 0 [] rfl (World.ownsRow_nil _ _ _ _) none 0 0 [] rfl rfl (row_nil _ _ _) (fun _ => rfl) (by omega) (Nat.le_refl _) ?an)
                case an =>
                  intro v1 w4 hown1 hb4
                  have H4 : Hid (w4.ownsRow w3.heap.size 75 4 v1 0 (flatP []) ∧ Below w3.heap.size w3 w4) := ⟨by simpa using hown1, hb4⟩
                  obtain ⟨f0, f1, f2, f3, zf⟩ := blk4 hb4 HQB.out.2 HQB.out.1
                  clear hown1 hb4 e0 e1 e2 e3 ze c0 c1 cz
                  go_wp2_with (at_builtin; refine append_row rfl (.tmp 84) (.tmp 86) rfl w3.heap.size _ 0 [] rfl (H4.out.1.alloc _) (some ⟨w4.heap.size, 0, none⟩) 1 1 [⟨nm', qs, qw, qf⟩] rfl rfl (row_new w4 (flatP [⟨nm', qs, qw, qf⟩]) _ 1 rfl) (fun h => by cases h) (by omega) (by simp; exact Nat.le_trans H4.out.2.size (by omega)) ?an2)
                  case an2 =>
                    intro v2 w5 hown2 hb5
                    obtain rfl : ps = [] := List.length_eq_zero_iff.1 HO.out.2
                    have H5 : Hid (w5.ownsRow w3.heap.size 75 4 v2 1 (flatP ([] ++ [qq])) ∧ Below w3.heap.size w3 w5) := ⟨by rw [HQQ.out]; exact hown2, (H4.out.2.alloc H4.out.2.size _).trans hb5⟩
                    obtain ⟨c0, c1, cz⟩ := blk2 (HS3.out.nx H5.out.2).h2
                    clear hown2 hb5 f0 f1 f2 f3 zf
                    go_wp2_with (at_builtin; refine append_row rfl (.tmp 88) (.tmp 92) rfl w3.heap.size _ 1 ([] ++ [qq]) rfl H5.out.1 none 0 0 [] rfl rfl (row_nil _ _ _) (fun _ => rfl) (by omega) (H5.out.2.size) ?an3)
                    case an3 =>
                      intro v3 w6 hown3 hb6
                      obtain ⟨hk1, hk2, hk3⟩ := HEND.out v3 w6 hown3 (H5.out.2.trans hb6)
                      obtain ⟨vo3, vc3, rfl, _⟩ := own_row hown3
                      have HK : Hid (Okt r ([].take 0 ++ [qq] ++ [].drop 0) ∧ ([].take 0 ++ [qq] ++ [].drop 0).length = 0 + 1) := ⟨hk1, hk2⟩
                      have HK3 := hideIt hk3
                      obtain ⟨d0, d1, dz⟩ := blk2 (HS3.out.nx (H5.out.2.trans hb6)).h2
                      clear hown3 hb6 hk1 hk2 hk3 c0 c1 cz
                      go_wp2_with fail
                      go_roundw
                      case rel => exact ⟨k + 1, 1, _, vo3, vc3, by omega, by go_num, by omega, HK.out, HK3.out, HGN.out⟩
                      case measure => simp [intOf]; omega
              · have HRP := hideIt (own_row HS3.out.own)
                have hvc : m ≤ vc := row_len HRP.out
                have hjvc : j ≤ vc := by omega
                go_wp2_with (at_builtin; refine append_row rfl (.tmp 78) (.tmp 82) rfl w3.heap.size (.slice none 0 0) 0 [] rfl (World.ownsRow_nil _ _ _ _) (some ⟨g, 0, none⟩) j vc (ps.take j) rfl (by rw [List.length_take, HO.out.2]; omega) (row_takeP HRP.out HO.out.2 hj) (fun h => by cases h) (by omega) (Nat.le_refl _) ?an)
                case an =>
                  intro v1 w4 hown1 hb4
                  have H4 : Hid (w4.ownsRow w3.heap.size 75 4 v1 j (flatP (ps.take j)) ∧ Below w3.heap.size w3 w4) := ⟨by simpa using hown1, hb4⟩
                  obtain ⟨f0, f1, f2, f3, zf⟩ := blk4 hb4 HQB.out.2 HQB.out.1
                  clear hown1 hb4 e0 e1 e2 e3 ze c0 c1 cz
                  go_wp2_with (at_builtin; refine append_row rfl (.tmp 84) (.tmp 86) rfl w3.heap.size _ j (ps.take j) rfl (H4.out.1.alloc _) (some ⟨w4.heap.size, 0, none⟩) 1 1 [⟨nm', qs, qw, qf⟩] rfl rfl (row_new w4 (flatP [⟨nm', qs, qw, qf⟩]) _ 1 rfl) (fun h => by cases h) (by omega) (by simp; exact Nat.le_trans H4.out.2.size (by omega)) ?an2)
                  case an2 =>
                    intro v2 w5 hown2 hb5
                    have H5 : Hid (w5.ownsRow w3.heap.size 75 4 v2 (j + 1) (flatP (ps.take j ++ [qq])) ∧ Below w3.heap.size w3 w5) := ⟨by rw [HQQ.out]; exact hown2, (H4.out.2.alloc H4.out.2.size _).trans hb5⟩
                    obtain ⟨c0, c1, cz⟩ := blk2 (HS3.out.nx H5.out.2).h2
                    clear hown2 hb5 f0 f1 f2 f3 zf
                    have HD := hideIt (row_dropP (own_row (HS3.out.nx H5.out.2).own) HO.out.2 hj)
                    by_cases hcj : vc = j
                    · rw [if_pos hcj, hcj, Nat.sub_self] at HD
                      go_wp2_with (at_builtin; refine append_row rfl (.tmp 88) (.tmp 92) rfl w3.heap.size _ (j + 1) (ps.take j ++ [qq]) rfl H5.out.1 (some ⟨g, 0, none⟩) (m - j) 0 (ps.drop j) rfl (by rw [List.length_drop, HO.out.2]) HD.out (fun h => by cases h) (by omega) (H5.out.2.size) ?an3)
                      case an3 =>
                        intro v3 w6 hown3 hb6
                        have hown3' : w6.ownsRow w3.heap.size 75 4 v3 (m + 1) (flatP (ps.take j ++ [qq] ++ ps.drop j)) := by
                          rw [show m + 1 = j + 1 + (m - j) by omega, List.append_assoc, List.singleton_append]; exact hown3
                        obtain ⟨hk1, hk2, hk3⟩ := HEND.out v3 w6 hown3' (H5.out.2.trans hb6)
                        obtain ⟨vo3, vc3, rfl, _⟩ := own_row hown3'
                        have HK : Hid (Okt r (ps.take j ++ [qq] ++ ps.drop j) ∧ (ps.take j ++ [qq] ++ ps.drop j).length = m + 1) := ⟨hk1, hk2⟩
                        have HK3 := hideIt hk3
                        obtain ⟨d0, d1, dz⟩ := blk2 (HS3.out.nx (H5.out.2.trans hb6)).h2
                        clear hown3 hown3' hb6 hk1 hk2 hk3 c0 c1 cz
                        go_wp2_with fail
                        go_roundw
                        case rel => exact ⟨k + 1, m + 1, _, vo3, vc3, by omega, by go_num, by omega, HK.out, HK3.out, HGN.out⟩
                        case measure => simp [intOf]; omega
                    · rw [if_neg hcj] at HD
                      go_wp2_with (at_builtin; refine append_row rfl (.tmp 88) (.tmp 92) rfl w3.heap.size _ (j + 1) (ps.take j ++ [qq]) rfl H5.out.1 _ _ _ (ps.drop j) rfl (by rw [List.length_drop, HO.out.2]) (by simpa using HD.out) (fun h => by cases h) (by omega) (H5.out.2.size) ?an3)
                      case an3 =>
                        intro v3 w6 hown3 hb6
                        have hown3' : w6.ownsRow w3.heap.size 75 4 v3 (m + 1) (flatP (ps.take j ++ [qq] ++ ps.drop j)) := by
                          rw [show m + 1 = j + 1 + (m - j) by omega, List.append_assoc, List.singleton_append]; exact hown3
                        obtain ⟨hk1, hk2, hk3⟩ := HEND.out v3 w6 hown3' (H5.out.2.trans hb6)
                        obtain ⟨vo3, vc3, rfl, _⟩ := own_row hown3'
                        have HK : Hid (Okt r (ps.take j ++ [qq] ++ ps.drop j) ∧ (ps.take j ++ [qq] ++ ps.drop j).length = m + 1) := ⟨hk1, hk2⟩
                        have HK3 := hideIt hk3
                        obtain ⟨d0, d1, dz⟩ := blk2 (HS3.out.nx (H5.out.2.trans hb6)).h2
                        clear hown3 hown3' hb6 hk1 hk2 hk3 c0 c1 cz
                        go_wp2_with fail
                        go_roundw
                        case rel => exact ⟨k + 1, m + 1, _, vo3, vc3, by omega, by go_num, by omega, HK.out, HK3.out, HGN.out⟩
                        case measure => simp [intOf]; omega
    · by_cases hkn : k < n
      · have hm6' : ¬ m < 6 := by omega
        have HLAST : Hid (1 ≤ b → b ≤ 99 → GoodT xs → r = b ∧ ps = insAll xs) := by
          intro h1 h2 hg
          have h3 := HGD.out hg
          have h4 := HO.out.2
          rw [h3, insAll_len, List.length_take] at h4
          have h5 := hg.2.2
          rw [HR.out.2] at h4 h5
          omega
        clear HGD HRX
        go_wp2_with fail
        refine bodyPost_ret (v := .agg #[.int .i64 r, .slice vo m vc]) (by simp [results, Tryz.results28, go_sem, b0, b1]) rfl ⟨r, ps, vo, vc, HO.out.1, by rw [HO.out.2], ?_, ?_, HLAST.out⟩
        · rw [HO.out.2]
          exact own_mono (ownsRow_setCell_below (ownsRow_setCell_below HS.out.own (by show w.heap.size + 1 < _; omega) _) (by show w.heap.size + 1 < _; omega) _) (by omega)
        · exact (HS.out.bel.setCell (by show w.heap.size ≤ w.heap.size + 1; omega) _).setCell (by show w.heap.size ≤ w.heap.size + 1; omega) _
      · have HLAST : Hid (1 ≤ b → b ≤ 99 → GoodT xs → r = b ∧ ps = insAll xs) := by
          intro h1 h2 hg
          refine ⟨HRX.out h1 h2, ?_⟩
          have h3 := HGD.out hg
          rwa [List.take_of_length_le (by rw [HR.out.2]; omega)] at h3
        clear HGD HRX
        go_wp2_with fail
        refine bodyPost_ret (v := .agg #[.int .i64 r, .slice vo m vc]) (by simp [results, Tryz.results28, go_sem, b0, b1]) rfl ⟨r, ps, vo, vc, HO.out.1, by rw [HO.out.2], ?_, ?_, HLAST.out⟩
        · rw [HO.out.2]
          exact own_mono (ownsRow_setCell_below (ownsRow_setCell_below HS.out.own (by show w.heap.size + 1 < _; omega) _) (by show w.heap.size + 1 < _; omega) _) (by omega)
        · exact (HS.out.bel.setCell (by show w.heap.size ≤ w.heap.size + 1; omega) _).setCell (by show w.heap.size ≤ w.heap.size + 1; omega) _
end Co
end Go.Proofs.YtohbonfngeblkaaGreat
