import Derived.Test.YtcpikklofilkcaaGreatNqN
import Derived.Test.YtcpikklofilkcaaGreatNqJ
set_option maxRecDepth 100000
set_option maxHeartbeats 16000000
namespace Go.Proofs.YtcpikklofilkcaaGreat
open Go.RowKit
namespace Co
theorem Zkf (i0:Nat) (ao:Option Addr) (cap m:Nat) (ls:List RL) (w:World) (hl:RLinesAt w (.slice ao m cap) ls) (hm:ls.length=m) (hm1:m≤1001) (hi0:i0<m) (hb:AllB (bareR ls)) (hsl:∀ l∈bareR ls,l.sets.length≤1001) :
  Calls Tryz.prog 61 #[.slice ao m cap,.int .i64 (i0:Int),.int .i64 0] w fun e w'=>e=.returned (.int .i64 (vI (bareR ls) 0 (i0 :: chI (bareR ls) m i0)))∧Below w.heap.size w w':=Zck i0 0 ao cap m ls w hl hm hm1 hi0 hb hsl
theorem Zkk (i0:Nat) (ao:Option Addr) (cap m:Nat) (ls:List RL) (w:World) (hl:RLinesAt w (.slice ao m cap) ls) (hm:ls.length=m) (hm1:m≤1001) (hi0:i0<m) (hb:AllB (bareR ls)) (hsl:∀ l∈bareR ls,l.sets.length≤1001) :
  Calls Tryz.prog 61 #[.slice ao m cap,.int .i64 (i0:Int),.int .i64 1] w fun e w'=>e=.returned (.int .i64 (vI (bareR ls) 1 (i0 :: chI (bareR ls) m i0)))∧Below w.heap.size w w':=Zck i0 1 ao cap m ls w hl hm hm1 hi0 hb hsl
theorem Zki (i0:Nat) (ao:Option Addr) (cap m:Nat) (ls:List RL) (w:World) (hl:RLinesAt w (.slice ao m cap) ls) (hm:ls.length=m) (hm1:m≤1001) (hi0:i0<m) (hb:AllB (bareR ls)) (hsl:∀ l∈bareR ls,l.sets.length≤1001) :
  Calls Tryz.prog 61 #[.slice ao m cap,.int .i64 (i0:Int),.int .i64 2] w fun e w'=>e=.returned (.int .i64 (vI (bareR ls) 2 (i0 :: chI (bareR ls) m i0)))∧Below w.heap.size w w':=Zck i0 2 ao cap m ls w hl hm hm1 hi0 hb hsl
theorem ZiR {L:List Ln} (h:(chER L).1=0):AllB L:=by
 unfold chER at h;cases hno:noC L L with
 | some k=>rw [hno] at h;simp at h
 | none=>exact ZcP L L hno
def CS (w:World) (g:Nat) (wr:World) (b:Int) (v:Value) (q:Nat) (ps:List Pl):Prop:=
 wr.heap[w.heap.size]?=some (bTab 0 (.slice none 0 0))∧wr.heap[g]?=some (bTab b v)∧wr.ownsRow (g+1) 70 4 v q (flatP ps)∧Below w.heap.size w wr∧w.heap.size<g∧g<wr.heap.size
theorem CS.nx {w:World} {g:Nat} {wr wr':World} {b:Int} {v:Value} {q:Nat} {ps:List Pl} (h:CS w g wr b v q ps) (hb:Below wr.heap.size wr wr'):CS w g wr' b v q ps:=
 ⟨(hb.block _ (by have:=h.2.2.2.2;omega)).trans h.1,(hb.block _ h.2.2.2.2.2).trans h.2.1,Zk h.2.2.1 hb,Za h.2.2.2.1 hb,h.2.2.2.2.1,Nat.lt_of_lt_of_le h.2.2.2.2.2 hb.size⟩
theorem CS.put {w:World} {g:Nat} {wr:World} {b:Int} {v v':Value} {q q' B:Nat} {ps ps':List Pl} (h:CS w g wr b v q ps) (ho:wr.ownsRow B 70 4 v' q' (flatP ps')) (hB:g+1≤B) :
  CS w g ((wr.setCell ⟨g,0,none⟩ (.int .i64 b)).setCell ⟨g,1,none⟩ v') b v' q' ps':=by
 have e1:=Zg _ g 0 (.int .i64 b) _ _ h.2.1;have e2:=Zg _ g 1 v' _ _ e1;refine ⟨?_,e2,?_,?_,h.2.2.2.2.1,by simpa using h.2.2.2.2.2⟩
 ·exact (Below.heap_setCell _ _ _ _ (by show w.heap.size≠g;have:=h.2.2.2.2.1;omega)).trans ((Below.heap_setCell _ _ _ _ (by show w.heap.size≠g;have:=h.2.2.2.2.1;omega)).trans h.1)
 ·exact ownsRow_setCell_below (ownsRow_setCell_below (Zi ho hB) (by show g<_;omega) _) (by show g<_;omega) _
 ·exact (h.2.2.2.1.setCell (by show w.heap.size≤g;have:=h.2.2.2.2.1;omega) _).setCell (by show w.heap.size≤g;have:=h.2.2.2.2.1;omega) _
theorem Zcf (s:ByteArray) (w:World) (hs:s.size≤maxLen) :
  Calls Tryz.prog 23 #[.string s] w fun e w'=>Gave (ans s) w w' e:=by
 unfold maxLen at hs;by_cases hlong:1000<s.size
 ·have HA:Hid (ans s=⟨(0,[]),1,0⟩):=by show _=_;rw [ans,if_pos hlong]
  have hli:(1000:Int)<(s.size:Int):=by omega
  go_enter Tryz.func23,Tryz.ntmps23
  go_wp2_with fail
  refine bodyPost_ret (v:=.tuple #[.agg #[.int .i64 0,.slice none 0 0],.int .i64 1,.int .i64 0]) (by simp [results,Tryz.results23,go_sem]) rfl ?_;exact ZaH rfl (by rw [HA.out]) (by rw [HA.out];rfl) (by rw [HA.out];rfl) (Zb _ _)
 ·have hs2:s.size≤1000:=by omega
  have hli:¬(1000:Int)<(s.size:Int):=by omega
  have H0:Hid ((w.alloc (bTab 0 (.slice none 0 0))).heap[w.heap.size]?=some (bTab 0 (.slice none 0 0))):=Zm _ _ rfl;have HRL:=hideIt (Zi0 s (w.alloc (bTab 0 (.slice none 0 0))) hs2);have HSM:=hideIt (ZfD s hs2);have HAA:=hideIt (ZjM s hs2);clear hlong;go_enter Tryz.func23,Tryz.ntmps23
  go_wp2_with fail
  refine HRL.out.mono ?_;rintro e w1 (⟨hbad,rfl,hb1⟩ | ⟨ls,ao,cap,hz,hls,hn1,hn0,rfl,hl,hb1⟩)
  ·obtain ⟨er,her⟩:∃ er,(rd s).err=er:=⟨_,rfl⟩;obtain ⟨pl,hpl⟩:∃ pl,(rd s).at'=pl:=⟨_,rfl⟩;rw [her] at hbad;rw [her,hpl];have HA:Hid (ans s=⟨(0,[]),er,pl⟩):=by show _=_;rw [HAA.out (fun h=>absurd (her▸h) hbad),her,hpl,if_pos hbad]
   have hh0:w1.heap[w.heap.size]?=some (bTab 0 (.slice none 0 0)):=(hb1.block _ (by simp)).trans H0.out;obtain ⟨e0,e1,ze⟩:=blk2 hh0;have herb:((er:Int) != 0)=true:=by rw [bne_iff_ne];omega
   have HB:Hid (Below w.heap.size w w1):=Za (Zb _ _) hb1;clear hb1 her hpl hbad hh0;go_wp2_with fail
   refine bodyPost_ret (v:=.tuple #[.agg #[.int .i64 0,.slice none 0 0],.int .i64 er,.int .i64 pl]) (by simp [results,Tryz.results23,go_sem,e0,e1]) rfl ?_;exact ZaH rfl (by rw [HA.out]) (by rw [HA.out]) (by rw [HA.out]) ((HB.out.setCell (Nat.le_refl _) _).setCell (Nat.le_refl _) _)
  ·obtain ⟨n,hn⟩:∃ n,ls.length=n:=⟨_,rfl⟩;obtain ⟨L,hL⟩:∃ L,bareR ls=L:=⟨_,rfl⟩;have hLn:L.length=n:=by rw [←hL,ZM,hn]
   have HSL:Hid (∀ l∈bareR ls,l.sets.length≤1001):=by rw [←hls];exact HSM.out
   have HAB:Hid (ans s=if (chER L).1≠0 then ⟨(0,[]),(chER L).1,(chER L).2⟩ else ⟨((bud0 L:Int),foldR L 0 L []),0,0⟩):=by
    show _=_;rw [HAA.out (fun _=>by rw [hls,ZM];exact hn0),if_neg (by simp [hz]),hls,hL]
   have hinv:=Zhy s hz;rw [hls,hL] at hinv;rw [hn] at hl hn1 ⊢;have HL:Hid (RLinesAt w1 (.slice ao n cap) ls∧ls.length=n∧bareR ls=L∧L.length=n∧Inv L):=⟨hl,hn,hL,hLn,hinv⟩;have hh0:w1.heap[w.heap.size]?=some (bTab 0 (.slice none 0 0)):=(hb1.block _ (by simp)).trans H0.out;have hlt1:w.heap.size<w1.heap.size:=Zfd hb1;have HB:Hid (Below w.heap.size w w1∧w1.heap[w.heap.size]?=some (bTab 0 (.slice none 0 0))):=⟨Za (Zb _ _) hb1,hh0⟩;have HCF:=hideIt (Zib ao cap n ls w1 hl hn hn1);rw [hL] at HCF;have hn0':0<n:=by omega
   clear hl hn hls hz hb1 hh0 HAA hL hLn hinv hn0;go_wp2_with fail
   refine HCF.out.mono ?_;rintro e w2 ⟨rfl,hb2⟩;obtain ⟨⟨er,pl⟩,hce⟩:∃ ce,chER L=ce:=⟨_,rfl⟩;rw [hce];simp only;have hh0:w2.heap[w.heap.size]?=some (bTab 0 (.slice none 0 0)):=(hb2.block _ hlt1).trans HB.out.2;by_cases her:er=0
   ·have HA:Hid (ans s=⟨((bud0 L:Int),foldR L 0 L []),0,0⟩∧AllB L):=⟨by rw [HAB.out,hce,if_neg (by simp [her])],ZiR (by rw [hce];exact her)⟩;have HB2:Hid (Below w.heap.size w w2∧w.heap.size<w2.heap.size∧w2.heap[w.heap.size]?=some (bTab 0 (.slice none 0 0))∧RLinesAt w2 (.slice ao n cap) ls):=⟨Za HB.out.1 hb2,Nat.lt_of_lt_of_le hlt1 hb2.size,hh0,HL.out.1.nx hb2⟩;obtain ⟨⟨l,kv,vv⟩,hp⟩:∃ p,ls[0]?=some p:=⟨_,List.getElem?_eq_getElem (by rw [HL.out.2.1];exact hn0')⟩;obtain ⟨bl,off,ko,kc,vo,vc,hao,hbl,_,_,_,hrv,c0,c1,c2,c3,c4,c5⟩:=HB2.out.2.2.2.at hp;have hlp:L[0]?=some l:=by rw [←HL.out.2.2.1];exact ZY hp
    obtain ⟨x,hx⟩:∃ x,l.sets=[(3,x)]:=by
     rcases (HL.out.2.2.2.2.1 l (List.mem_of_getElem? hlp)).1 with ⟨_,_,_,x,h⟩ | ⟨h,_⟩
     ·exact ⟨x,h⟩
     ·have:=(HL.out.2.2.2.2.2.2 0 l hlp).1 rfl;omega
    have hbx:bud0 L=x:=by
     match L,hlp with
     | l' :: r,hlp=>simp at hlp;subst hlp;simp [bud0,hx]
    rw [hbx] at HA;have hv1:l.sets.length=1:=by rw [hx];rfl
    have hvv:valsOf l=[x]:=by rw [valsOf,hx];rfl
    rw [hv1,hvv] at hrv;rw [hv1] at c4;obtain ⟨blv,offv,hvo,hblv,cv⟩:=Z6 hrv (show [x][0]?=some x from rfl);simp only [Nat.zero_mul,Nat.add_zero] at c4 cv;have hn0i:(0:Int)<(n:Int):=by omega
    obtain ⟨W3,hW3⟩:∃ W3,W3=w2.alloc (bTab (x:Int) (.slice none 0 0)):=⟨_,rfl⟩;have H3:Hid (W3=w2.alloc (bTab (x:Int) (.slice none 0 0))∧Below w2.heap.size w2 W3):=⟨hW3,by rw [hW3];exact Zb _ _⟩;have HCS:Hid (CS w w2.heap.size W3 (x:Int) (.slice none 0 0) 0 []):=by
     rw [hW3];exact ⟨(Zh _ _ HB2.out.2.1).trans hh0,Zm _ _ rfl,World.ownsRow_nil _ _ _ _,Za HB2.out.1 (Zb _ _),HB2.out.2.1,by simp⟩
    subst hao hvo her;clear hce hh0 hb2 hp hlp hx hbx hv1 hvv hrv c0 c1 c2 c3 c5 hW3 HCF;go_wp2_with fail
    rw [←H3.out.1];obtain ⟨g,hg⟩:∃ g,w2.heap.size=g:=⟨_,rfl⟩;rw [hg] at HCS ⊢;have HG:=hideIt hg;clear hg c4 cv;go_loopw [9] (fun i wr=>∃ (k q:Nat) (ps:List Pl) (vo:Option Addr) (vc:Nat),k≤n∧i=.int .i64 k∧q≤k∧Hid (foldR L 0 L []=foldR L k (L.drop k) ps∧ps.length=q)∧Hid (CS w g wr (x:Int) (.slice vo q vc) q ps∧Below w2.heap.size w2 wr)) (fun i _=>n - (intOf i).toNat)
    case atStart=>exact ⟨0,0,[],none,0,Nat.zero_le _,rfl,Nat.le_refl _,⟨rfl,rfl⟩,HCS.out,H3.out.2⟩
    case round =>
     obtain ⟨k,q,ps,vo,vc,hk,rfl,hq,HS,HC⟩:=hrel;by_cases hlt:k<n
     ·obtain ⟨⟨l2,kv2,vv2⟩,hp⟩:∃ p,ls[k]?=some p:=⟨_,List.getElem?_eq_getElem (by rw [HL.out.2.1];exact hlt)⟩;have hlr:=HB2.out.2.2.2.nx HC.out.2;obtain ⟨bl2,off2,ko2,kc2,vo2,vc2,hao2,hbl2,_,_,_,_,c0,c1,c2,c3,c4,c5⟩:=hlr.at hp;obtain ⟨rfl,rfl⟩:bl=bl2∧off=off2:=by simpa using hao2
      have hlp:L[k]?=some l2:=by rw [←HL.out.2.2.1];exact ZY hp
      have HD:Hid (L.drop k=l2 :: L.drop (k+1)):=Zy hlp;have hlti:(k:Int)<(n:Int):=by omega
      have hkb:((kwK l2.kind).toList == [112,111,111,108])=decide (l2.kind=3):=by
       have:=ZfP l2.kind 3;rw [Zde 3] at this;exact this
      obtain ⟨lw,hlw⟩:∃ lw,kwK l2.kind=lw:=⟨_,rfl⟩;rw [hlw] at c0 hkb;by_cases h3:l2.kind=3
      ·have hkb2:(lw.toList == [112,111,111,108])=true:=by rw [hkb];simp [h3]
       have HX:Hid (foldR L 0 L []=foldR L (k+1) (L.drop (k+1)) (insP (plR L k l2) ps)):=by
        show _=_;rw [HS.out.1,HD.out,foldR,if_pos h3]
       have HV0:=hideIt (fun w0 hl0=>Zkf k (some ⟨bl,off,none⟩) cap n ls w0 hl0 HL.out.2.1 hn1 hlt (by rw [HL.out.2.2.1];exact HA.out.2) HSL.out);have HV1:=hideIt (fun w0 hl0=>Zkk k (some ⟨bl,off,none⟩) cap n ls w0 hl0 HL.out.2.1 hn1 hlt (by rw [HL.out.2.2.1];exact HA.out.2) HSL.out);have HV2:=hideIt (fun w0 hl0=>Zki k (some ⟨bl,off,none⟩) cap n ls w0 hl0 HL.out.2.1 hn1 hlt (by rw [HL.out.2.2.1];exact HA.out.2) HSL.out);have HPR:Hid (plR L k l2=⟨l2.name,vI L 0 (k :: chI L n k),vI L 1 (k :: chI L n k),vI L 2 (k :: chI L n k)⟩):=by
        show _=_;rw [plR,HL.out.2.2.2.1]
       rw [HL.out.2.2.1] at HV0 HV1 HV2;obtain ⟨v0,hv0⟩:∃ v,vI L 0 (k :: chI L n k)=v:=⟨_,rfl⟩;obtain ⟨v1,hv1⟩:∃ v,vI L 1 (k :: chI L n k)=v:=⟨_,rfl⟩;obtain ⟨v2,hv2⟩:∃ v,vI L 2 (k :: chI L n k)=v:=⟨_,rfl⟩;rw [hv0] at HV0 HPR;rw [hv1] at HV1 HPR;rw [hv2] at HV2 HPR;rw [HPR.out] at HX;have HLR:=hideIt hlr;clear hlr hp hlp hao2 hv0 hv1 hv2 h3 hkb hlw c2 c3 c4 c5;go_wp2_with fail
       refine (HV0.out wr HLR.out).mono ?_;rintro e w3 ⟨rfl,hb3⟩;go_wp2_with fail
       refine (HV1.out w3 (HLR.out.nx hb3)).mono ?_;rintro e w4 ⟨rfl,hb4⟩;go_wp2_with fail
       refine (HV2.out w4 ((HLR.out.nx hb3).nx hb4)).mono ?_;rintro e w5 ⟨rfl,hb5⟩;have hb35:=Za (Za hb3 hb4) hb5;have d1:w5.cell? ⟨bl,off+k*6+1,none⟩=some (.string l2.name):=(hb35.cell (p:=⟨bl,off+k*6+1,none⟩) hbl2).trans c1;have HC5:Hid (CS w g w5.drew (x:Int) (.slice vo q vc) q ps∧Below w2.heap.size w2 w5.drew):=⟨(HC.out.1.nx hb35).nx ((Below.refl _ _).drew),Za HC.out.2 (Za hb35 (Below.refl _ _).drew)⟩;obtain ⟨g0,g1,gz⟩:=blk2 (show w5.heap[g]?=some (bTab (x:Int) (.slice vo q vc)) from HC5.out.1.2.1);have HJN:=hideIt (ZdC (x:Int) ⟨l2.name,v0,v1,v2⟩ vo vc q ps w5.drew (Zd HC5.out.1.2.2.1) HS.out.2 (by omega));obtain ⟨q6,hq6⟩:∃ q6,(insP (Pl.mk l2.name v0 v1 v2) ps).length=q6:=⟨_,rfl⟩;have hq6':q6≤q+1:=by rw [←hq6,ZX,HS.out.2];omega
       rw [hq6] at HJN;have HQ6:=hideIt hq6;clear hb3 hb4 hb5 hb35 c0 c1 hq6;go_wp2_with fail
       go_region_with (go_at_call 62;refine HJN.out.mono ?_;rintro e w6 ⟨vo6,vc6,rfl,hown6,hb6⟩;obtain ⟨k0,k1,kz⟩:=blk2 (HC5.out.1.nx hb6).2.1)
       all_goals
        have HC6:Hid (CS w g ((w6.setCell ⟨g,0,none⟩ (.int .i64 (x:Int))).setCell ⟨g,1,none⟩ (.slice vo6 q6 vc6)) (x:Int) (.slice vo6 q6 vc6) q6 (insP (Pl.mk l2.name v0 v1 v2) ps)∧Below w2.heap.size w2 ((w6.setCell ⟨g,0,none⟩ (.int .i64 (x:Int))).setCell ⟨g,1,none⟩ (.slice vo6 q6 vc6))):=
         ⟨(HC5.out.1.nx hb6).put hown6 HC5.out.1.2.2.2.2.2,((Za HC5.out.2 hb6).setCell (by show w2.heap.size≤g;rw [HG.out];omega) _).setCell (by show w2.heap.size≤g;rw [HG.out];omega) _⟩
        clear hown6 hb6;go_wp2_with fail
        go_roundw
        case rel =>
         repeat apply Exists.intro
         exact ⟨⟨k+1,q6,insP (Pl.mk l2.name v0 v1 v2) ps,vo6,vc6,by omega,by go_num,by omega,⟨HX.out,HQ6.out⟩,HC6.out⟩,rfl⟩
        case measure=>simp [intOf];omega
      ·have hkb2:(lw.toList == [112,111,111,108])=false:=by rw [hkb];simp [h3]
       have HX:Hid (foldR L 0 L []=foldR L (k+1) (L.drop (k+1)) ps):=by
        show _=_;rw [HS.out.1,HD.out,foldR,if_neg h3]
       clear hlr hp hlp hao2 h3 hkb hlw c1 c2 c3 c4 c5;go_wp2_with fail
       go_roundw
       case rel=>exact ⟨k+1,q,ps,vo,vc,by omega,by go_num,by omega,⟨HX.out,HS.out.2⟩,HC.out⟩
       case measure=>simp [intOf];omega
     ·have HX:Hid (foldR L 0 L []=ps∧ps.length=q):=⟨by rw [HS.out.1,List.drop_of_length_le (by rw [HL.out.2.2.2.1];omega)];rfl,HS.out.2⟩;obtain ⟨e0,e1,ze⟩:=blk2 HC.out.1.1;obtain ⟨g0,g1,gz⟩:=blk2 HC.out.1.2.1;have hgi:=HC.out.1.2.2.2.2.1;go_wp2_with fail
      refine bodyPost_ret (v:=.tuple #[.agg #[.int .i64 (x:Int),.slice vo q vc],.int .i64 0,.int .i64 0]) (by simp [results,Tryz.results23,go_sem,e0,e1]) rfl ⟨vo,vc,?_,?_,?_⟩
      ·rw [HA.out.1,HX.out.1];simp only;rw [HX.out.2];rfl
      ·rw [HA.out.1,HX.out.1];simp only;rw [HX.out.2];exact Zi (ownsRow_setCell_below (ownsRow_setCell_below HC.out.1.2.2.1 (by show w.heap.size<_;omega) _) (by show w.heap.size<_;omega) _) (by omega)
      ·exact (HC.out.1.2.2.2.1.setCell (Nat.le_refl _) _).setCell (Nat.le_refl _) _
   ·have HA:Hid (ans s=⟨(0,[]),er,pl⟩):=by show _=_;rw [HAB.out,hce,if_pos her]
    obtain ⟨e0,e1,ze⟩:=blk2 hh0;have herb:((er:Int) != 0)=true:=by rw [bne_iff_ne];omega
    have HB2:Hid (Below w.heap.size w w2):=Za HB.out.1 hb2;clear hce her hh0 hb2;go_wp2_with fail
    refine bodyPost_ret (v:=.tuple #[.agg #[.int .i64 0,.slice none 0 0],.int .i64 er,.int .i64 pl]) (by simp [results,Tryz.results23,go_sem,e0,e1]) rfl ?_;exact ZaH rfl (by rw [HA.out]) (by rw [HA.out]) (by rw [HA.out]) ((HB2.out.setCell (Nat.le_refl _) _).setCell (Nat.le_refl _) _)
end Co
end Go.Proofs.YtcpikklofilkcaaGreat
namespace Go.Proofs.YtcpikklofilkcaaGreat
open Go.RowKit
namespace Lw
open Co
abbrev wldA (b:Int) (v1:Value) (nx:Int):Value:=.agg #[.int .i64 b,v1,.slice none 0 0,.slice none 0 0,.slice none 0 0,.bool false,.bool false,.int .i64 nx,.int .i64 0,.slice none 0 0]
abbrev bWld (b:Int) (v1:Value) (nx:Int):Obj:=.cells #[.int .i64 b,v1,.slice none 0 0,.slice none 0 0,.slice none 0 0,.bool false,.bool false,.int .i64 nx,.int .i64 0,.slice none 0 0] 38
theorem blk10d {w:World} {g:Nat} {c0 c1 c2 c3 c4 c5 c6 c7 c8 c9:Value} {t:TypeId} (h:w.heap[g]?=some (.cells #[c0,c1,c2,c3,c4,c5,c6,c7,c8,c9] t (0,0))) :
  w.cell? ⟨g,0,none⟩=some c0∧w.cell? ⟨g,1,none⟩=some c1∧w.cell? ⟨g,2,none⟩=some c2∧w.cell? ⟨g,3,none⟩=some c3∧w.cell? ⟨g,4,none⟩=some c4∧w.cell? ⟨g,5,none⟩=some c5∧w.cell? ⟨g,6,none⟩=some c6∧w.cell? ⟨g,7,none⟩=some c7∧w.cell? ⟨g,8,none⟩=some c8∧w.cell? ⟨g,9,none⟩=some c9∧∀ a,w.frozen? ⟨g,a,none⟩=false:=by
 refine ⟨?_,?_,?_,?_,?_,?_,?_,?_,?_,?_,fun a=>?_⟩ <;> simp [World.cell?,World.frozen?,h]
abbrev set10 (W:World) (g:Nat) (c0 c1 c2 c3 c4 c5 c6 c7 c8 c9:Value):World:=
 (((((((((W.setCell ⟨g,0,none⟩ c0).setCell ⟨g,1,none⟩ c1).setCell ⟨g,2,none⟩ c2).setCell ⟨g,3,none⟩ c3).setCell ⟨g,4,none⟩ c4).setCell ⟨g,5,none⟩ c5).setCell ⟨g,6,none⟩ c6).setCell ⟨g,7,none⟩ c7).setCell ⟨g,8,none⟩ c8).setCell ⟨g,9,none⟩ c9
theorem ZgZ (W:World) (g:Nat) (c0 c1 c2 c3 c4 c5 c6 c7 c8 c9:Value) (j:Nat) (hj:j≠g):(set10 W g c0 c1 c2 c3 c4 c5 c6 c7 c8 c9).heap[j]?=W.heap[j]?:=by
 refine (Below.heap_setCell _ _ _ _ hj).trans ((Below.heap_setCell _ _ _ _ hj).trans ((Below.heap_setCell _ _ _ _ hj).trans ((Below.heap_setCell _ _ _ _ hj).trans ((Below.heap_setCell _ _ _ _ hj).trans ((Below.heap_setCell _ _ _ _ hj).trans ((Below.heap_setCell _ _ _ _ hj).trans ((Below.heap_setCell _ _ _ _ hj).trans ((Below.heap_setCell _ _ _ _ hj).trans (Below.heap_setCell _ _ _ _ hj)))))))))
theorem ZcW {B:Nat} {w0 W:World} (h:Below B w0 W) (g:Nat) (hg:B≤g) (c0 c1 c2 c3 c4 c5 c6 c7 c8 c9:Value):Below B w0 (set10 W g c0 c1 c2 c3 c4 c5 c6 c7 c8 c9):=
 (((((((((h.setCell hg _).setCell hg _).setCell hg _).setCell hg _).setCell hg _).setCell hg _).setCell hg _).setCell hg _).setCell hg _).setCell hg _
theorem Zdu (W:World) (g:Nat) (d0 d1 d2 d3 d4 d5 d6 d7 d8 d9 c0 c1 c2 c3 c4 c5 c6 c7 c8 c9:Value) (t:TypeId) (h:W.heap[g]?=some (.cells #[d0,d1,d2,d3,d4,d5,d6,d7,d8,d9] t (0,0))):(set10 W g c0 c1 c2 c3 c4 c5 c6 c7 c8 c9).heap[g]?=some (.cells #[c0,c1,c2,c3,c4,c5,c6,c7,c8,c9] t (0,0)):=by
 have h0:(W.setCell ⟨g,0,none⟩ c0).heap[g]?=some (.cells #[c0,d1,d2,d3,d4,d5,d6,d7,d8,d9] t (0,0)):=Zg _ g 0 _ _ _ h;have h1:((W.setCell ⟨g,0,none⟩ c0).setCell ⟨g,1,none⟩ c1).heap[g]?=some (.cells #[c0,c1,d2,d3,d4,d5,d6,d7,d8,d9] t (0,0)):=Zg _ g 1 _ _ _ h0;have h2:(((W.setCell ⟨g,0,none⟩ c0).setCell ⟨g,1,none⟩ c1).setCell ⟨g,2,none⟩ c2).heap[g]?=some (.cells #[c0,c1,c2,d3,d4,d5,d6,d7,d8,d9] t (0,0)):=Zg _ g 2 _ _ _ h1;have h3:((((W.setCell ⟨g,0,none⟩ c0).setCell ⟨g,1,none⟩ c1).setCell ⟨g,2,none⟩ c2).setCell ⟨g,3,none⟩ c3).heap[g]?=some (.cells #[c0,c1,c2,c3,d4,d5,d6,d7,d8,d9] t (0,0)):=Zg _ g 3 _ _ _ h2;have h4:(((((W.setCell ⟨g,0,none⟩ c0).setCell ⟨g,1,none⟩ c1).setCell ⟨g,2,none⟩ c2).setCell ⟨g,3,none⟩ c3).setCell ⟨g,4,none⟩ c4).heap[g]?=some (.cells #[c0,c1,c2,c3,c4,d5,d6,d7,d8,d9] t (0,0)):=Zg _ g 4 _ _ _ h3;have h5:((((((W.setCell ⟨g,0,none⟩ c0).setCell ⟨g,1,none⟩ c1).setCell ⟨g,2,none⟩ c2).setCell ⟨g,3,none⟩ c3).setCell ⟨g,4,none⟩ c4).setCell ⟨g,5,none⟩ c5).heap[g]?=some (.cells #[c0,c1,c2,c3,c4,c5,d6,d7,d8,d9] t (0,0)):=Zg _ g 5 _ _ _ h4;have h6:(((((((W.setCell ⟨g,0,none⟩ c0).setCell ⟨g,1,none⟩ c1).setCell ⟨g,2,none⟩ c2).setCell ⟨g,3,none⟩ c3).setCell ⟨g,4,none⟩ c4).setCell ⟨g,5,none⟩ c5).setCell ⟨g,6,none⟩ c6).heap[g]?=some (.cells #[c0,c1,c2,c3,c4,c5,c6,d7,d8,d9] t (0,0)):=Zg _ g 6 _ _ _ h5;have h7:((((((((W.setCell ⟨g,0,none⟩ c0).setCell ⟨g,1,none⟩ c1).setCell ⟨g,2,none⟩ c2).setCell ⟨g,3,none⟩ c3).setCell ⟨g,4,none⟩ c4).setCell ⟨g,5,none⟩ c5).setCell ⟨g,6,none⟩ c6).setCell ⟨g,7,none⟩ c7).heap[g]?=some (.cells #[c0,c1,c2,c3,c4,c5,c6,c7,d8,d9] t (0,0)):=Zg _ g 7 _ _ _ h6;have h8:(((((((((W.setCell ⟨g,0,none⟩ c0).setCell ⟨g,1,none⟩ c1).setCell ⟨g,2,none⟩ c2).setCell ⟨g,3,none⟩ c3).setCell ⟨g,4,none⟩ c4).setCell ⟨g,5,none⟩ c5).setCell ⟨g,6,none⟩ c6).setCell ⟨g,7,none⟩ c7).setCell ⟨g,8,none⟩ c8).heap[g]?=some (.cells #[c0,c1,c2,c3,c4,c5,c6,c7,c8,d9] t (0,0)):=Zg _ g 8 _ _ _ h7;have h9:((((((((((W.setCell ⟨g,0,none⟩ c0).setCell ⟨g,1,none⟩ c1).setCell ⟨g,2,none⟩ c2).setCell ⟨g,3,none⟩ c3).setCell ⟨g,4,none⟩ c4).setCell ⟨g,5,none⟩ c5).setCell ⟨g,6,none⟩ c6).setCell ⟨g,7,none⟩ c7).setCell ⟨g,8,none⟩ c8).setCell ⟨g,9,none⟩ c9).heap[g]?=some (.cells #[c0,c1,c2,c3,c4,c5,c6,c7,c8,c9] t (0,0)):=Zg _ g 9 _ _ _ h8;exact h9
def RNewG (a:Ans) (w w':World) (e:Ending):Prop:=
 ∃ vo vc nx,e=.returned (.tuple #[wldA a.tab.1 (.slice vo a.tab.2.length vc) nx,.int .i64 a.err,.int .i64 a.at'])∧w'.ownsRow w.heap.size 70 4 (.slice vo a.tab.2.length vc) a.tab.2.length (flatP a.tab.2)∧Below w.heap.size w w'∧(a.err=0→nx=1)
theorem Zju (s:ByteArray) (w:World) (hs:s.size≤maxLen) :
  Calls Tryz.prog 10 #[.string s] w fun e w'=>RNewG (ans s) w w' e:=by
 have HC:=hideIt (Zcf s (w.alloc (bWld 0 (.slice none 0 0) 0)) hs);have HBAD:=hideIt (Zgk s);have HOK:=hideIt (Zim s);obtain ⟨⟨⟨b,ps⟩,er,pl⟩,ha⟩:∃ a,ans s=a:=⟨_,rfl⟩;rw [ha] at HC HBAD HOK ⊢;simp only at HBAD HOK;unfold maxLen at hs;clear ha;go_enter Tryz.func10,Tryz.ntmps10
 go_wp2_with fail
 refine HC.out.mono ?_;rintro e w1 ⟨vo,vc,rfl,hown,hb1⟩;simp only at hown ⊢;obtain ⟨m,hm⟩:∃ m,ps.length=m:=⟨_,rfl⟩;rw [hm] at hown ⊢;have hz:w1.heap[w.heap.size]?=some (bWld 0 (.slice none 0 0) 0):=(hb1.block _ (by simp)).trans (Zc _ _ rfl);have hlt:w.heap.size<w1.heap.size:=Zfd hb1;have K1:Hid (w1.ownsRow (w.heap.size+1) 70 4 (.slice vo m vc) m (flatP ps)∧Below w.heap.size w w1∧ps.length=m):=⟨by simpa using hown,Za (Zb _ _) hb1,hm⟩;obtain ⟨y0,y1,y2,y3,y4,y5,y6,y7,y8,y9,yz⟩:=blk10d hz;by_cases her:er=0
 ·have hpl:pl=0:=HOK.out her;subst her hpl;obtain ⟨FW,hFW⟩:∃ FW,FW=(set10 w1 w.heap.size (.int .i64 b) (.slice vo m vc) (.slice none 0 0) (.slice none 0 0) (.slice none 0 0) (.bool false) (.bool false) (.int .i64 1) (.int .i64 0) (.slice none 0 0)).alloc (bTab b (.slice vo m vc)):=⟨_,rfl⟩;have hFz:FW.heap[w.heap.size]?=some (bWld b (.slice vo m vc) 1):=by
   rw [hFW];exact (Zf _ _ (by simpa using hlt)).trans (Zdu w1 _ _ _ _ _ _ _ _ _ _ _ _ _ _ _ _ _ _ _ _ _ _ hz)
  have KF:Hid (FW=(set10 w1 w.heap.size (.int .i64 b) (.slice vo m vc) (.slice none 0 0) (.slice none 0 0) (.slice none 0 0) (.bool false) (.bool false) (.int .i64 1) (.int .i64 0) (.slice none 0 0)).alloc (bTab b (.slice vo m vc))∧Below w.heap.size w FW):=by
   refine ⟨hFW,?_⟩;rw [hFW];exact (ZcW K1.out.2.1 _ (Nat.le_refl _) _ _ _ _ _ _ _ _ _ _).alloc (by simpa using Nat.le_of_lt hlt) _
  obtain ⟨z0,z1,z2,z3,z4,z5,z6,z7,z8,z9,zz⟩:=blk10d hFz;clear hown hb1 hm HC hz hFW hFz;go_wp2_with fail
  rw [←KF.out.1];clear y0 y1 y2 y3 y4 y5 y6 y7 y8 y9 yz;refine bodyPost_ret (v:=.tuple #[wldA b (.slice vo m vc) 1,.int .i64 0,.int .i64 0]) (by simp [results,Tryz.results10,go_sem,z0,z1,z2,z3,z4,z5,z6,z7,z8,z9]) rfl ?_;refine ⟨vo,vc,1,?_,?_,KF.out.2,fun _=>rfl⟩
  ·simp only [K1.out.2.2];rfl
  ·simp only [K1.out.2.2];rw [KF.out.1];exact Zi ((Zj K1.out.1 (fun j hj=>ZgZ _ _ _ _ _ _ _ _ _ _ _ _ j (by have:=(K1.out.1.lt j hj).1;omega))).alloc _) (by omega)
 ·have herb:((er:Int) != 0)=true:=by rw [bne_iff_ne];omega
  have HER:=hideIt her;obtain ⟨rfl,rfl⟩:b=0∧ps=[]:=by have:=HBAD.out her;simpa using this
  have hm0:m=0:=by rw [←hm];rfl
  subst hm0;obtain ⟨FW,hFW⟩:∃ FW,FW=(set10 w1 w.heap.size (.int .i64 0) (.slice none 0 0) (.slice none 0 0) (.slice none 0 0) (.slice none 0 0) (.bool false) (.bool false) (.int .i64 0) (.int .i64 0) (.slice none 0 0)).alloc (bTab 0 (.slice vo 0 vc)):=⟨_,rfl⟩;have hFz:FW.heap[w.heap.size]?=some (bWld 0 (.slice none 0 0) 0):=by
   rw [hFW];exact (Zf _ _ (by simpa using hlt)).trans (Zdu w1 _ _ _ _ _ _ _ _ _ _ _ _ _ _ _ _ _ _ _ _ _ _ hz)
  have KF:Hid (FW=(set10 w1 w.heap.size (.int .i64 0) (.slice none 0 0) (.slice none 0 0) (.slice none 0 0) (.slice none 0 0) (.bool false) (.bool false) (.int .i64 0) (.int .i64 0) (.slice none 0 0)).alloc (bTab 0 (.slice vo 0 vc))∧Below w.heap.size w FW):=by
   refine ⟨hFW,?_⟩;rw [hFW];exact (ZcW K1.out.2.1 _ (Nat.le_refl _) _ _ _ _ _ _ _ _ _ _).alloc (by simpa using Nat.le_of_lt hlt) _
  obtain ⟨z0,z1,z2,z3,z4,z5,z6,z7,z8,z9,zz⟩:=blk10d hFz;clear hown hb1 HC hz her hm hFW hFz;go_wp2_with fail
  rw [←KF.out.1];clear y0 y1 y2 y3 y4 y5 y6 y7 y8 y9 yz;refine bodyPost_ret (v:=.tuple #[wldA 0 (.slice none 0 0) 0,.int .i64 er,.int .i64 pl]) (by simp [results,Tryz.results10,go_sem,z0,z1,z2,z3,z4,z5,z6,z7,z8,z9]) rfl ?_;exact ⟨none,0,0,rfl,World.ownsRow_nil _ _ _ _,KF.out.2,fun h=>absurd h HER.out⟩
abbrev bPair (p:Value) (b:Int) (v1 v2 v3 v4:Value) (x y:Bool) (nx hb:Int) (hv:Value):Obj:=.cells #[p,.int .i64 b,v1,v2,v3,v4,.bool x,.bool y,.int .i64 nx,.int .i64 hb,hv] 40
def BegG (a:Ans) (w w':World) (e:Ending):Prop:=
  ∃ gx,e=.returned (.tuple #[.pointer (some ⟨gx,0,none⟩),.bool true])∧w.heap.size≤gx∧Below w.heap.size w w' ∧
    ((a.err≠0∧∃ b v1 nx,w'.heap[gx]?=some (bPair (.pointer none) b v1 (.slice none 0 0) (.slice none 0 0) (.slice none 0 0) false false nx 0 (.slice none 0 0))) ∨
     (a.err=0∧∃ gp F vo vc nx,w'.heap[gx]?=some (bPair (.pointer (some ⟨gp,0,none⟩)) a.tab.1 (.slice vo a.tab.2.length vc) (.slice none 0 0) (.slice none 0 0) (.slice none 0 0) false false nx 0 (.slice none 0 0)) ∧
       DeskAt w' gp (staNew a) ⟨0,0,[]⟩ F∧(∀ y,F y→w.heap.size≤y)∧¬F gx∧w'.ownsRow 0 70 4 (.slice vo a.tab.2.length vc) a.tab.2.length (flatP a.tab.2)∧(∀ g,(Value.slice vo a.tab.2.length vc).ownBlock=some g→¬F g∧w.heap.size≤g)∧nx=1))
theorem Zh0 (s:ByteArray) (w:World) (hs:s.size≤maxLen) :
    Calls Tryz.prog 5 #[.string s] w fun e w'=>BegG (ans s) w w' e:=by
  have HN:=hideIt (ZjK s w hs);have HR:=hideIt (fun w1=>Zju s w1 hs);have HOK:=hideIt (Zim s);obtain ⟨⟨⟨b,ps⟩,er,pl⟩,ha⟩:∃ a,ans s=a:=⟨_,rfl⟩;rw [ha] at HN HR HOK ⊢;simp only at HOK;unfold maxLen at hs;clear ha;go_enter Tryz.func5,Tryz.ntmps5
  go_wp2_with fail
  refine HN.out.mono ?_;rintro e w1 (⟨her,rfl,hb1⟩ | ⟨her,gp,F,rfl,hd,hF,hb1⟩)
  · simp only at her ⊢;have HE:=hideIt her;have herb:((er:Int) != 0)=true:=by rw [bne_iff_ne];omega
    have HB1:=hideIt hb1;clear her hb1 HN;go_wp2_with fail
    refine (HR.out w1).mono ?_;rintro e w2 ⟨vo,vc,nx,rfl,hown,hb2,_⟩;simp only at hown ⊢;obtain ⟨m,hm⟩:∃ m,ps.length=m:=⟨_,rfl⟩;rw [hm];have hbb:=Za HB1.out hb2;have K:Hid (Below w.heap.size w ((w2.alloc (bWld b (.slice vo m vc) nx)).alloc (bPair (.pointer none) b (.slice vo m vc) (.slice none 0 0) (.slice none 0 0) (.slice none 0 0) false false nx 0 (.slice none 0 0)))∧w.heap.size≤w2.heap.size):=⟨(hbb.alloc hbb.size _).alloc (by simp;have:=hbb.size;omega) _,hbb.size⟩;clear hown hb2 hbb hm;go_wp2_with fail
    go_ret2
    refine ⟨w2.heap.size+1,rfl,by have:=K.out.2;omega,K.out.1,.inl ⟨HE.out,b,.slice vo m vc,nx,?_⟩⟩;exact Zc _ _ (by simp)
  · simp only at her;subst her;have hpl:pl=0:=HOK.out rfl;subst hpl;have HD:Hid (DeskAt w1 gp (staNew ⟨(b,ps),0,0⟩) ⟨0,0,[]⟩ F∧(∀ y,F y→w.heap.size≤y)∧Below w.heap.size w w1):=⟨hd,hF,hb1⟩;clear hd hF hb1 HN;go_wp2_with fail
    refine (HR.out w1).mono ?_;rintro e w2 ⟨vo,vc,nx,rfl,hown,hb2,hnx⟩;have HNX:Hid (nx=1):=hnx rfl;simp only at hown ⊢;clear hnx;obtain ⟨m,hm⟩:∃ m,ps.length=m:=⟨_,rfl⟩;rw [hm] at hown ⊢;have hbb:=Za HD.out.2.2 hb2;have hbf:Below w2.heap.size w2 ((w2.alloc (bWld b (.slice vo m vc) nx)).alloc (bPair (.pointer (some ⟨gp,0,none⟩)) b (.slice vo m vc) (.slice none 0 0) (.slice none 0 0) (.slice none 0 0) false false nx 0 (.slice none 0 0))):=Za (Zb _ _) (Zb _ _);have K:Hid (Below w.heap.size w ((w2.alloc (bWld b (.slice vo m vc) nx)).alloc (bPair (.pointer (some ⟨gp,0,none⟩)) b (.slice vo m vc) (.slice none 0 0) (.slice none 0 0) (.slice none 0 0) false false nx 0 (.slice none 0 0)))∧w.heap.size≤w2.heap.size∧ps.length=m ∧
        DeskAt ((w2.alloc (bWld b (.slice vo m vc) nx)).alloc (bPair (.pointer (some ⟨gp,0,none⟩)) b (.slice vo m vc) (.slice none 0 0) (.slice none 0 0) (.slice none 0 0) false false nx 0 (.slice none 0 0))) gp (staNew ⟨(b,ps),0,0⟩) ⟨0,0,[]⟩ F∧(∀ y,F y→y<w2.heap.size) ∧
        ((w2.alloc (bWld b (.slice vo m vc) nx)).alloc (bPair (.pointer (some ⟨gp,0,none⟩)) b (.slice vo m vc) (.slice none 0 0) (.slice none 0 0) (.slice none 0 0) false false nx 0 (.slice none 0 0))).ownsRow 0 70 4 (.slice vo m vc) m (flatP ps)∧(∀ g,(Value.slice vo m vc).ownBlock=some g→¬F g∧w.heap.size≤g)):=by
      refine ⟨Za hbb hbf,hbb.size,hm,HD.out.1.keep (G:=fun _=>False) (Chg.of_below (Za hb2 hbf)) (fun _ _ h=>h),fun y hy=>Nat.lt_of_lt_of_le (HD.out.1.lt y hy) hb2.size,Zi (Zk hown hbf) (Nat.zero_le _),fun g hg=>?_⟩;have h1:=(hown.lt g hg).1;refine ⟨fun h=>?_,Nat.le_trans HD.out.2.2.size h1⟩;have:=HD.out.1.lt g h;omega
    clear hown hb2 hbb hm hbf;go_wp2_with fail
    go_ret2
    refine ⟨w2.heap.size+1,rfl,by have:=K.out.2.1;omega,K.out.1,.inr ⟨rfl,gp,F,vo,vc,nx,?_,K.out.2.2.2.1,HD.out.2.1,fun h=>?_,?_,?_,HNX.out⟩⟩
    · simp only [K.out.2.2.1];exact Zc _ _ (by simp)
    · have:=K.out.2.2.2.2.1 _ h;omega
    · simp only [K.out.2.2.1];exact K.out.2.2.2.2.2.1
    · simp only [K.out.2.2.1];exact K.out.2.2.2.2.2.2
end Lw
end Go.Proofs.YtcpikklofilkcaaGreat
