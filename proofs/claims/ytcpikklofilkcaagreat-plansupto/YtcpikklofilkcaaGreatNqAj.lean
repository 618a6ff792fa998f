import Derived.Test.YtcpikklofilkcaaGreatNqAg
import Derived.Test.YtcpikklofilkcaaGreatNqW
set_option maxRecDepth 100000
set_option maxHeartbeats 16000000
namespace Go.Proofs.YtcpikklofilkcaaGreat
open Go.RowKit
namespace Df
open Co Lw
theorem ZhP {α:Type} {p:α→Bool} {l:List α} {i:Nat} (h:l.findIdx? p=some i):∃ x,l[i]?=some x∧l.find? p=some x∧l.any p=true:=by
 rw [List.findIdx?_eq_some_iff_getElem] at h;obtain ⟨hi,hp,hj⟩:=h;refine ⟨l[i],List.getElem?_eq_getElem hi,Za5 (k:=i) ?_ (List.getElem?_eq_getElem hi) hp,Ziw (List.getElem?_eq_getElem hi) hp⟩;intro y hy;obtain ⟨j,hj',rfl⟩:=List.mem_take_iff_getElem.1 hy;have:=hj j (by omega);simpa using this
theorem ZeH {α:Type} {p:α→Bool} {l:List α} (h:l.findIdx? p=none):l.find? p=none∧l.any p=false:=by
 rw [List.findIdx?_eq_none_iff] at h;exact ⟨ZbI h,Zic h⟩
theorem rWas (b:Int) (ao:Option Addr) (n ac:Nat) (name:ByteArray) (ps:List Pl) (w:World) (hr:RowAt w (.slice ao n ac) n (flatP ps)) (hn:ps.length=n) (hlen:n≤maxLen) :
  Calls Tryz.prog 116 #[.agg #[.int .i64 b,.slice ao n ac],.string name] w fun e w'=>e=.returned (.tuple #[plA (inP ps name),.bool (ps.any (isNameP name))])∧Below w.heap.size w w':=by
 obtain ⟨W,hW⟩:∃ W,W=(w.alloc (bTab b (.slice ao n ac))).alloc (bPl zPl):=⟨_,rfl⟩;have hbW:Below w.heap.size w W:=by rw [hW];exact Za (Zb _ _) (Zb _ _)
 have HF:=hideIt (rAt b ao n ac name ps W (hr.nx hbW) hn hlen);have HW:Hid (W=(w.alloc (bTab b (.slice ao n ac))).alloc (bPl zPl)∧W.heap[w.heap.size]?=some (bTab b (.slice ao n ac))∧W.heap[w.heap.size+1]?=some (bPl zPl)∧w.heap.size+2=W.heap.size∧Below w.heap.size w W):=by
  refine ⟨hW,?_,?_,?_,hbW⟩
  ·rw [hW];exact (Zf _ _ (by simp)).trans (Zc _ _ rfl)
  ·rw [hW];exact Zc _ _ (by simp)
  ·rw [hW];simp
 have HR:Hid (RowAt w (.slice ao n ac) n (flatP ps)∧ps.length=n):=⟨hr,hn⟩;unfold maxLen at hlen;clear hr hn hW hbW;cases hf:ps.findIdx? (isNameP name) with
 | none =>
  have HI:Hid (inP ps name=⟨name,0,0,0⟩∧ps.any (isNameP name)=false):=⟨by rw [inP,(ZeH hf).1],(ZeH hf).2⟩;rw [hf] at HF;clear hf;go_enter Tryz.func116,Tryz.ntmps116
  go_wp2_with fail
  rw [←HW.out.1];refine HF.out.mono ?_;rintro e w1 ⟨rfl,hb1⟩;have hh:w1.heap[w.heap.size+1]?=some (bPl zPl):=(hb1.block _ (by have:=HW.out.2.2.2.1;omega)).trans HW.out.2.2.1;have HB1:=hideIt (Za HW.out.2.2.2.2 hb1);have hz1:w.heap.size+1<w1.heap.size:=(Array.getElem?_eq_some_iff.1 hh).1;obtain ⟨c0,c1,c2,c3,cz⟩:=blk4 (Below.refl w1.heap.size w1) hz1 hh;clear hb1 HF hh;unfold optI;go_wp2_with fail
  refine bodyPost_ret (v:=.tuple #[plA ⟨name,0,0,0⟩,.bool false]) (by simp [results,Tryz.results116,go_sem,c0,c1,c2,c3]) rfl ⟨by rw [HI.out.1,HI.out.2],?_⟩;exact (((HB1.out.setCell (by show w.heap.size≤w.heap.size+1;omega) _).setCell (by show w.heap.size≤w.heap.size+1;omega) _).setCell (by show w.heap.size≤w.heap.size+1;omega) _).setCell (by show w.heap.size≤w.heap.size+1;omega) _
 | some i =>
  obtain ⟨⟨x0,x1,x2,x3⟩,hx,hfi,hany⟩:=ZhP hf;have hi:i<n:=by rw [←HR.out.2];exact (List.getElem?_eq_some_iff.1 hx).1
  have hlti:(i:Int)<(n:Int):=by omega
  have HI:Hid (inP ps name=⟨x0,x1,x2,x3⟩∧ps.any (isNameP name)=true):=⟨by rw [inP,hfi],hany⟩;rw [hf] at HF;clear hf hfi hany;go_enter Tryz.func116,Tryz.ntmps116
  go_wp2_with fail
  rw [←HW.out.1];refine HF.out.mono ?_;rintro e w1 ⟨rfl,hb1⟩;have h0:w1.heap[w.heap.size]?=some (bTab b (.slice ao n ac)):=(hb1.block _ (by have:=HW.out.2.2.2.1;omega)).trans HW.out.2.1;have hh:w1.heap[w.heap.size+1]?=some (bPl zPl):=(hb1.block _ (by have:=HW.out.2.2.2.1;omega)).trans HW.out.2.2.1;have HB1:=hideIt (Za HW.out.2.2.2.2 hb1);have hz1:w.heap.size+1<w1.heap.size:=(Array.getElem?_eq_some_iff.1 hh).1;obtain ⟨c0,c1,c2,c3,cz⟩:=blk4 (Below.refl w1.heap.size w1) hz1 hh;obtain ⟨a0,a1,az⟩:=blk2 h0;obtain ⟨bl,off,hao,hbl,d0,d1,d2,d3⟩:=Zn (HR.out.1.nx HB1.out) hx;subst hao;simp only at d0 d1 d2 d3;clear hb1 HF hh h0 hx;have e0:¬(i:Int)<0:=by omega
  unfold optI;go_wp2_with fail
  refine bodyPost_ret (v:=.tuple #[plA ⟨x0,x1,x2,x3⟩,.bool true]) (by simp [results,Tryz.results116,go_sem,c0,c1,c2,c3]) rfl ⟨by rw [HI.out.1,HI.out.2],?_⟩;exact (((HB1.out.setCell (by show w.heap.size≤w.heap.size+1;omega) _).setCell (by show w.heap.size≤w.heap.size+1;omega) _).setCell (by show w.heap.size≤w.heap.size+1;omega) _).setCell (by show w.heap.size≤w.heap.size+1;omega) _
end Df
end Go.Proofs.YtcpikklofilkcaaGreat
