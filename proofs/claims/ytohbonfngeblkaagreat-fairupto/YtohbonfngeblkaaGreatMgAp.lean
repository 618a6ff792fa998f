import Derived.Test.YtohbonfngeblkaaGreatMgS
import Derived.Test.YtohbonfngeblkaaGreatMgAl
namespace Go.Proofs.YtohbonfngeblkaaGreat
open Go.RowKit
namespace Co
def bytesV : Value → ByteArray
  | .string s => s
  | _ => ⟨#[]⟩
theorem wide_more {l : List UInt8} (h : l.length < 4) : wide true (48 :: l) = wide true l := by
  unfold wide
  simp only [if_true, List.length_cons]
  rw [show 4 - l.length = (4 - (l.length + 1)) + 1 by omega, List.replicate_succ']
  simp
theorem wide_done {b : Bool} {l : List UInt8} (h : ¬ (b = true ∧ l.length < 4)) : wide b l = l := by
  unfold wide
  cases b
  · rfl
  · have : 4 - l.length = 0 := by simp at h; omega
    simp [this]
theorem tl_add (a b : ByteArray) : tl (a ++ b) = tl a ++ tl b := by simp [tl, ByteArray.data_append]
theorem dg_step {n : Nat} (h : 9 < n) (t : List UInt8) : dg (n / 10) ++ (UInt8.ofNat (48 + n % 10) :: t) = dg n ++ t := by
  rw [dg_big h]; simp
theorem tl_b48 (m : Nat) : tl ⟨#[48 + UInt8.ofNat m]⟩ = [UInt8.ofNat (48 + m)] := by
  rw [UInt8.ofNat_add]; rfl
set_option maxRecDepth 20000 in
set_option maxHeartbeats 800000 in
theorem digits_any (n : Nat) (b : Bool) (w : World) (hn : n ≤ 999) :
    Calls Tryz.prog 52 #[.int .i64 n, .bool b] w fun e w' => (∃ s, tl s = dgW b n ∧ e = .returned (.string s)) ∧ Below w.heap.size w w' := by
  have HN := hideIt (dg_len hn)
  go_enter Tryz.func52, Tryz.ntmps52
  go_wp2_with fail
  go_loopw [0, 5] (fun i o wr => ∃ (k : Nat) (t : ByteArray), k ≤ 999 ∧ i = .int .i64 k ∧ o = .string t ∧ Hid (dg k ++ tl t = dg n) ∧ Below w.heap.size w wr) (fun i _ _ => (intOf i).toNat)
  case atStart => exact ⟨n, ⟨#[]⟩, hn, rfl, rfl, List.append_nil _, Below.refl _ _⟩
  case round =>
    obtain ⟨k, t, hk, rfl, rfl, ht, hb⟩ := hrel
    have hts : ¬ 9223372036854775807 < 1 + t.size := by
      have h := ht.out
      have h2 : (dg k ++ tl t).length ≤ 3 := by rw [h]; exact HN.out.2
      rw [List.length_append, tl_len] at h2
      omega
    by_cases h9 : 9 < k
    · have hc := conv_byte wr (48 + (k : Int) % 10) (by omega) (by omega)
      go_wp2_with fail
      go_round
      case rel =>
        refine ⟨k / 10, _, by omega, by go_num, rfl, ?_, hb.alloc hb.size _⟩
        show dg (k / 10) ++ tl (_ ++ t) = dg n
        rw [tl_add, tl_b48, ← ht.out, List.singleton_append, dg_step h9]
      case measure => simp [intOf]; omega
    · have hc := conv_byte wr (48 + (k : Int) % 10) (by omega) (by omega)
      have HT : Hid (tl (⟨#[48 + UInt8.ofNat (k % 10)]⟩ ++ t) = dg n) := by
        show _ = _
        rw [tl_add, tl_b48, ← ht.out, dg_small h9, Nat.mod_eq_of_lt (by omega)]
      have HB : Hid (Below w.heap.size w (wr.alloc (.cells #[.int .u8 (48 + (k : Int) % 10)] 5))) := hb.alloc hb.size _
      go_wp2_with fail
      clear hc
      go_loopw [5] (fun o wx => ∃ (t' : ByteArray), o = .string t' ∧ Hid (wide b (tl t') = dgW b n) ∧ Hid (t'.size ≤ 4) ∧ Below w.heap.size w wx) (fun o _ => 4 - (bytesV o).size)
      case atStart => 
        refine ⟨_, rfl, ?_, ?_, HB.out⟩
        · show wide b (tl _) = _
          rw [HT.out]; rfl
        · show ByteArray.size _ ≤ 4
          rw [← tl_len, HT.out]
          have := HN.out
          omega
      case round =>
        obtain ⟨t', rfl, hw, hl, hbx⟩ := hrel
        have hts : ¬ 9223372036854775807 < 1 + t'.size := by have := hl.out; omega
        cases b with
        | false =>
          go_wp2_with fail
          go_ret
          exact ⟨⟨t', by rw [← hw.out, wide_done (by simp)], rfl⟩, hbx⟩
        | true =>
          by_cases h4 : t'.size < 4
          · go_wp2_with fail
            go_round
            case rel =>
              refine ⟨_, rfl, ?_, ?_, hbx⟩
              · show wide true (tl (_ ++ t')) = _
                rw [tl_add, ← hw.out]
                exact wide_more (l := tl t') (by rw [tl_len]; exact h4)
              · show ByteArray.size (_ ++ t') ≤ 4
                rw [ByteArray.size_append]
                show 1 + t'.size ≤ 4
                omega
            case measure =>
              show 4 - ByteArray.size (_ ++ t') < 4 - t'.size
              rw [ByteArray.size_append]
              show 4 - (1 + t'.size) < 4 - t'.size
              omega
          · go_wp2_with fail
            go_ret
            exact ⟨⟨t', by rw [← hw.out, wide_done (by rw [tl_len]; simp; omega)], rfl⟩, hbx⟩
theorem bits_one (x : Int) : bits .and .i64 x 1 = 0 ∨ bits .and .i64 x 1 = 1 := by
  have h : ((BitVec.ofInt 64 x &&& BitVec.ofInt 64 1).toNat = 0) ∨ ((BitVec.ofInt 64 x &&& BitVec.ofInt 64 1).toNat = 1) := by
    have h1 : (BitVec.ofInt 64 1).toNat = 1 := by decide
    rw [BitVec.toNat_and, h1, Nat.and_one_is_mod]
    omega
  have e : bits .and .i64 x 1 = IntKind.i64.wrap (((BitVec.ofInt 64 x &&& BitVec.ofInt 64 1).toNat : Nat) : Int) := rfl
  rw [e]
  rcases h with h | h
  · left; rw [h]; decide
  · right; rw [h]; decide
def bt (x : Int) : Bool := bits BinOp.and .i64 x 1 == 1
theorem bt_zero (x : Int) : (bits BinOp.and .i64 x 1 == 0) = !(bt x) := by
  unfold bt
  rcases bits_one x with h | h <;> rw [h] <;> rfl
def stOf (x : Int) : Sty := ⟨bt x, bt (x / 2), bt (x / 4), bt (x / 8), bt (x / 16), bt (x / 32), bt (x / 64), bt (x / 128), bt (x / 256), bt (x / 512)⟩
theorem join_small (st : Sty) : ∀ (l : List (List UInt8)), (∀ f ∈ l, f.length ≤ 1000) → (joinL st l).length ≤ 1002 * l.length
  | [], _ => by simp [joinL]
  | f :: r, h => by
    have h1 := h f List.mem_cons_self
    have h2 := join_small st r (fun g hg => h g (List.mem_cons_of_mem _ hg))
    have h3 : (sepL st).length ≤ 2 := by unfold sepL; cases st.b1 <;> simp
    simp only [joinL, List.length_append, List.length_cons]
    omega
theorem str_small {fs : List ByteArray} (hsm : ∀ f ∈ fs, f.size ≤ 1000) (hk : fs.length ≤ 8) (k : Nat) (st : Sty) : (joinF st ((fs.map tl).take k)).length ≤ 9000 := by
  have h1 : ∀ f ∈ (fs.map tl).take k, f.length ≤ 1000 := by
    intro f hf
    obtain ⟨g, hg, rfl⟩ := List.mem_map.1 (List.mem_of_mem_take hf)
    rw [tl_len]; exact hsm g hg
  have h2 : ((fs.map tl).take k).length ≤ 8 := by
    rw [List.length_take, List.length_map]; omega
  generalize (fs.map tl).take k = l at h1 h2
  cases l with
  | nil => simp [joinF]
  | cons f r =>
    have h3 := join_small st r (fun g hg => h1 g (List.mem_cons_of_mem _ hg))
    have h4 := h1 f List.mem_cons_self
    simp only [joinF, List.length_append, List.length_cons] at *
    omega
theorem take_map {fs : List ByteArray} {k : Nat} {f : ByteArray} (h : fs[k]? = some f) : (fs.map tl).take (k + 1) = (fs.map tl).take k ++ [tl f] := by
  obtain ⟨hk, e⟩ := List.getElem?_eq_some_iff.1 h
  rw [List.take_succ_eq_append_getElem (by simpa using hk)]
  simp [e]
theorem pad_add {st : Sty} {t : ByteArray} {l : List UInt8} (h : tl t = padL st ++ l) (x : ByteArray) : tl (t ++ x) = padL st ++ (l ++ tl x) := by
  rw [tl_add, h, List.append_assoc]
set_option maxRecDepth 20000 in
set_option maxHeartbeats 800000 in
theorem line_any (ao : Option Addr) (cap n : Nat) (fs : List ByteArray) (style : Int) (w : World) (hr : RowAt w (.slice ao n cap) n (strs fs)) (hn : fs.length = n) (hn8 : n ≤ 8) (hsm : ∀ f ∈ fs, f.size ≤ 1000) (hst : I64 style) :
    Calls Tryz.prog 51 #[.slice ao n cap, .int .i64 style] w fun e w' => (∃ s, tl s = lineL (stOf style) (fs.map tl) ∧ e = .returned (.string s)) ∧ w' = w := by
  obtain ⟨h1, h2⟩ := hst
  have HR : Hid (RowAt w (.slice ao n cap) n (strs fs) ∧ fs.length = n) := ⟨hr, hn⟩
  have HJ := hideIt (fun k => str_small hsm (by omega) k (stOf style))
  have HB : Hid ((stOf style).b0 = bt style ∧ (stOf style).b1 = bt (style / 2) ∧ (stOf style).b2 = bt (style / 4) ∧ (stOf style).b3 = bt (style / 8)) := ⟨rfl, rfl, rfl, rfl⟩
  have HSM := hideIt hsm
  clear hr hn hsm
  obtain ⟨st, hst⟩ : ∃ st, stOf style = st := ⟨_, rfl⟩
  rw [hst] at HB HJ ⊢
  clear hst
  have start : ∀ b : Bool, st.b0 = b → padL st = if b = true then [32, 32] else [] := fun b hb => by rw [padL, hb]
  have HP := hideIt start
  clear start
  have hpl : (padL st).length ≤ 2 := by unfold padL; cases st.b0 <;> simp
  have HPL := hideIt hpl
  clear hpl
  obtain ⟨b0, hb0⟩ : ∃ b, bt style = b := ⟨_, rfl⟩
  have HP0 : Hid (padL st = if b0 = true then [32, 32] else []) := HP.out b0 (by rw [HB.out.1, hb0])
  clear HP
  cases b0
  all_goals
    have hb0' : (bits BinOp.and IntKind.i64 style 1 == 1) = _ := hb0
    clear hb0
    go_enter Tryz.func51, Tryz.ntmps51
    go_wp2_with fail
    go_loop [5, 6] (fun o i => ∃ (k : Nat) (t : ByteArray), k ≤ n ∧ i = .int .i64 k ∧ o = .string t ∧ Hid (tl t = padL st ++ joinF st ((fs.map tl).take k))) (fun _ i => n - (intOf i).toNat)
    case atStart =>
      refine ⟨0, _, Nat.zero_le _, rfl, rfl, ?_⟩
      show tl _ = _
      rw [HP0.out]; rfl
    case round =>
      obtain ⟨k, t, hk, rfl, rfl, ht⟩ := hrel
      have hts : t.size ≤ 9002 := by
        rw [← tl_len, ht.out, List.length_append]
        have h3 := HJ.out k
        have h4 := HPL.out
        omega
      by_cases hlt : k < n
      · obtain ⟨f, hfk⟩ : ∃ f, fs[k]? = some f := ⟨_, List.getElem?_eq_getElem (by rw [HR.out.2]; exact hlt)⟩
        have hfs : f.size ≤ 1000 := HSM.out f (List.mem_of_getElem? hfk)
        obtain ⟨bl, off, rfl, hbl, hc⟩ := HR.out.1.at (strs_at hfk)
        have hk1 : (k : Int) + 1 ≤ 9 := by omega
        by_cases h0 : k = 0
        · subst h0
          have HN : Hid (tl (t ++ f) = padL st ++ joinF st ((fs.map tl).take 1)) := by
            show _ = _
            rw [pad_add ht.out, take_map hfk]
            simp [joinF, joinL]
          have hc0 : w.cell? ⟨bl, off, none⟩ = some (.string f) := by simpa using hc
          clear hfk hc
          go_wp2_with fail
          go_round
          case rel => exact ⟨1, _, hlt, by go_num, rfl, HN.out⟩
          case measure => simp [intOf]; omega
        · have hk0 : (0 : Int) < (k : Int) := by omega
          have hne : (fs.map tl).take k ≠ [] := by
            intro e
            have := congrArg List.length e
            rw [List.length_take, List.length_map, HR.out.2] at this
            simp at this
            omega
          cases hb1 : bt (style / 2) with
          | true =>
            have HN : Hid (tl (t ++ ⟨#[32]⟩ ++ ⟨#[32]⟩ ++ f) = padL st ++ joinF st ((fs.map tl).take (k + 1))) := by
              show _ = _
              rw [tl_add, tl_add, pad_add ht.out, take_map hfk, joinF_snoc _ _ _ hne, sepL, HB.out.2.1, hb1]
              simp
              rfl
            have hb1' : (bits BinOp.and IntKind.i64 (style / 2) 1 == 1) = true := hb1
            clear hfk hb1 hne
            go_wp2_with fail
            go_round
            case rel => exact ⟨k + 1, _, by omega, by go_num, rfl, HN.out⟩
            case measure => simp [intOf]; omega
          | false =>
            have HN : Hid (tl (t ++ ⟨#[32]⟩ ++ f) = padL st ++ joinF st ((fs.map tl).take (k + 1))) := by
              show _ = _
              rw [tl_add, pad_add ht.out, take_map hfk, joinF_snoc _ _ _ hne, sepL, HB.out.2.1, hb1]
              simp
              rfl
            have hb1' : (bits BinOp.and IntKind.i64 (style / 2) 1 == 1) = false := hb1
            clear hfk hb1 hne
            go_wp2_with fail
            go_round
            case rel => exact ⟨k + 1, _, by omega, by go_num, rfl, HN.out⟩
            case measure => simp [intOf]; omega
      · have HE : Hid (tl t = padL st ++ joinF st (fs.map tl)) := by
          show _ = _
          rw [ht.out, List.take_of_length_le (by rw [List.length_map, HR.out.2]; omega)]
        obtain ⟨b2, hb2⟩ : ∃ b, bt (style / 4) = b := ⟨_, rfl⟩
        obtain ⟨b3, hb3⟩ : ∃ b, bt (style / 8) = b := ⟨_, rfl⟩
        have HS2 : Hid (st.b2 = b2 ∧ st.b3 = b3) := ⟨by rw [HB.out.2.2.1, hb2], by rw [HB.out.2.2.2, hb3]⟩
        cases b2 <;> cases b3
        all_goals
          have hb2' : (bits BinOp.and IntKind.i64 (style / 4) 1 == 1) = _ := hb2
          have hb3' : (bits BinOp.and IntKind.i64 (style / 8) 1 == 1) = _ := hb3
          clear hb2 hb3
          go_wp2_with fail
          go_ret
          refine ⟨⟨_, ?_, rfl⟩, rfl⟩
          obtain ⟨e2, e3⟩ := HS2.out
          simp only [tl_add, HE.out, lineL, bodyL, endL, moreL, e2, e3]
          simp
          try rfl
end Co
end Go.Proofs.YtohbonfngeblkaaGreat
