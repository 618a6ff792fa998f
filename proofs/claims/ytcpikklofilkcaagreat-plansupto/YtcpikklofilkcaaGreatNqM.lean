import Derived.Test.YtcpikklofilkcaaGreatNqL
set_option maxRecDepth 100000
set_option maxHeartbeats 16000000
namespace Go.Proofs.YtcpikklofilkcaaGreat
open Go.RowKit
namespace Co
theorem Zi0 (s:ByteArray) (w:World) (hs:s.size≤1000) :
  Calls Tryz.prog 59 #[.string s] w fun e w'=>RRead s w w' e:=by
 obtain ⟨t0,hi,hz0,hz1,hz2⟩:=info_parts Zkj;go_enter Tryz.func59,Tryz.ntmps59
 go_wp2_with fail
 refine (ZhS s _ hs).mono ?_;rintro e w1 ⟨pa,pc,rfl,hp,hb1⟩;have hlen:=Zai s 10;have hsmall:=ZaE s 10;obtain ⟨ps,hps⟩:∃ ps,pieces s 10=ps:=⟨_,rfl⟩;rw [hps] at hp hlen hsmall ⊢;obtain ⟨n,hn⟩:∃ n,ps.length=n:=⟨_,rfl⟩;rw [hn] at hp hlen ⊢;have HP:Hid (RowAt w1 (.slice pa n pc) n (strs ps)∧ps.length=n∧pieces s 10=ps∧∀ p∈ps,p.size≤s.size):=⟨hp,hn,hps,hsmall⟩;have HB1:Hid (Below w.heap.size w w1):=hb1;clear hp hn hps hb1 hsmall;go_wp2_with fail
 go_loopw [5,7] (fun v i wr=>∃ (k m:Nat) (acc:List RL),k≤n∧i=.int .i64 k∧m≤k∧Hid (rd s=rdC k (bareR acc) (ps.drop k)∧acc.length=m∧∀ p∈acc,RSv wr p)∧wr.ownsRow w1.heap.size 122 6 v m (flatR acc)∧Below w1.heap.size w1 wr) (fun _ i _=>n - (intOf i).toNat)
 case atStart=>exact ⟨0,0,[],Nat.zero_le _,rfl,Nat.le_refl _,⟨by rw [rd,HP.out.2.2.1];rfl,rfl,by simp⟩,World.ownsRow_nil _ _ _ _,Below.refl _ _⟩
 case round =>
  obtain ⟨k,m,acc,hk,rfl,hm,HS,hown,hbel⟩:=hrel;obtain ⟨vo,vc,hv,_⟩:=Zd hown;subst hv;by_cases hlt:k<n
  ·obtain ⟨p,hpk⟩:∃ p,ps[k]?=some p:=⟨_,List.getElem?_eq_getElem (by rw [HP.out.2.1];exact hlt)⟩;obtain ⟨bl,off,hpa,hbl,hc⟩:=(HP.out.1.nx hbel).at (Zax hpk);subst hpa;have hps2:p.size≤1000:=Nat.le_trans (HP.out.2.2.2 p (List.mem_of_getElem? hpk)) hs;have HD:Hid (ps.drop k=p :: ps.drop (k+1)):=Zy hpk;have hlti:(k:Int)<(n:Int):=by omega
   clear hpk;go_wp2_with fail
   refine (Zf9 p _ hps2).mono ?_;rintro e w2 ⟨fo,fc,rfl,hf,hb2⟩;have hfl:=Zdl p;have hfs:=Zdy p;obtain ⟨fs,hfe⟩:∃ fs,flds p=fs:=⟨_,rfl⟩;rw [hfe] at hf hfl hfs ⊢;obtain ⟨fn,hfn⟩:∃ fn,fs.length=fn:=⟨_,rfl⟩;rw [hfn] at hf hfl ⊢;have hown2:=Zk hown hb2;have hbel2:=Za hbel hb2;have HF:Hid (RowAt w2 (.slice fo fn fc) fn (strs fs)∧fs.length=fn∧flds p=fs∧∀ q∈fs,q.size≤p.size):=⟨hf,hfn,hfe,hfs⟩;have HSv:Hid (∀ p∈acc,RSv w2 p):=fun q hq=>(HS.out.2.2 q hq).nx hb2
   clear hf hfn hfe hfs hown hbel hb2;by_cases hf0:fn=0
   ·have HF0:Hid (fn=0):=hf0;have hf0b:((fn:Int) == 0)=true:=by rw [hf0];rfl
    have hf0c:¬0<fn:=by omega
    clear hf0;go_wp2_with fail
    go_roundw
    case rel=>exact ⟨k+1,m,acc,by omega,by go_num,by omega,⟨by rw [HS.out.1,HD.out,Zdm (by rw [HF.out.2.2.1,HF.out.2.1];exact HF0.out)],HS.out.2.1,HSv.out⟩,hown2,hbel2⟩
    case measure=>simp [intOf];omega
   ·have hf0b:((fn:Int) == 0)=false:=by simp;omega
    have HF0:Hid (¬(flds p).length=0):=by show ¬_;rw [HF.out.2.2.1,HF.out.2.1];exact hf0
    have HFM:=hideIt (Zg4 fs ((k:Int)+1) fo fc fn w2 HF.out.1 HF.out.2.1 (by omega) (by omega) (fun q hq=>Nat.le_trans (HF.out.2.2.2 q hq) hps2));go_wp2_with fail
    refine HFM.out.mono ?_;rintro e w3 (⟨hno,wd,nm,fr,ko,nk,kc,vo2,nv,vc2,pl,rfl,hb3⟩ | ⟨l,ko,kc,vo2,vc2,hl,rfl,hrk,hrv,hfk,hfv,hb3⟩)
    ·have HX:Hid ((rd s).err=2∧(rd s).at'=k+1∧Below w.heap.size w (w3.alloc (bRL wd nm fr ko nk kc vo2 nv vc2 pl))):=by
      have e:rd s=⟨[],2,k+1⟩:=by
       rw [HS.out.1,HD.out,ZiN HF0.out (by rw [HF.out.2.2.1];exact hno)]
      refine ⟨by rw [e],by rw [e],Za (Za HB1.out (Za hbel2 hb3)) (Zb _ _)⟩
     clear hown2 hbel2 hb3 hno;go_wp2_with fail
     refine (ZiU wd nm fr ko nk kc vo2 nv vc2 pl vo m vc _).mono ?_;rintro e w4 ⟨rfl,hb4⟩;have HB4:Hid (Below w.heap.size w w4):=Za HX.out.2.2 hb4;clear hb4;go_wp2_with fail
     go_ret3
     refine .inl ⟨by rw [HX.out.1];decide,?_,HB4.out⟩;exact ZaI (by rw [HX.out.1];rfl) (by rw [HX.out.2.1];omega) rfl
    ·obtain ⟨nk,hnk⟩:∃ nk,(keysOf l).length=nk:=⟨_,rfl⟩;obtain ⟨m5,hm5⟩:∃ m5,l.sets.length=m5:=⟨_,rfl⟩;obtain ⟨kw,hkw⟩:∃ kw,kwK l.kind=kw:=⟨_,rfl⟩;have hok:=Zeq hl;have hlm:l.sets.length≤1001:=Nat.le_trans (ZbA hl).2.2 (by rw [HF.out.2.1];omega);obtain ⟨W4,hW4⟩:∃ W4,W4=w3.alloc (bRL kw l.name l.frm ko nk kc vo2 m5 vc2 ((k:Int)+1)):=⟨_,rfl⟩;have hb4:Below w3.heap.size w3 W4:=by rw [hW4];exact Zb _ _
     have hown4:=Zk (Zk hown2 hb3) hb4;have hbel4:=Za (Za hbel2 hb3) hb4;have HV:Hid ((∀ p∈acc,RSv W4 p)∧RSv W4 ({l with place:=k+1},.slice ko nk kc,.slice vo2 m5 vc2)):=by
      refine ⟨fun q hq=>((HSv.out q hq).nx hb3).nx hb4,?_⟩;refine RSv.nx ?_ hb4;refine ⟨⟨?_,?_⟩,?_,?_⟩
      ·rw [←hnk];exact hrk
      ·rw [←hm5];exact hrv
      ·intro so n' sc e;simp only [Value.slice.injEq] at e;obtain ⟨rfl,_,_⟩:=e;exact hfk
      ·intro so n' sc e;simp only [Value.slice.injEq] at e;obtain ⟨rfl,_,_⟩:=e;exact hfv
     have HWR:=hideIt (Zik l hok hlm ko kc vo2 vc2 ((k:Int)+1) vo vc m acc W4 ⟨by rw [HS.out.2.1];exact Zd hown4,fun q hq=>(HV.out.1 q hq).1⟩ HS.out.2.1 (by omega) (hrk.nx hb4) (hrv.nx hb4));rw [hkw,hnk,hm5] at HWR;rw [hkw,hnk,hm5];have HKW:=hideIt hkw;have H4:Hid (W4=w3.alloc (bRL kw l.name l.frm ko nk kc vo2 m5 vc2 ((k:Int)+1))∧W4.heap[w3.heap.size]?=some (bRL kw l.name l.frm ko nk kc vo2 m5 vc2 ((k:Int)+1))∧W4.heap.size=w3.heap.size+1):=⟨hW4,by rw [hW4];exact Zm _ _ rfl,by rw [hW4];simp⟩;have HL:=hideIt hl;clear hown2 hbel2 hb3 hb4 hrk hrv hfk hfv hnk hm5 hkw hok hlm hW4 hl;go_wp2_with fail
     rw [←H4.out.1];refine HWR.out.mono ?_;rintro e w5 ⟨rfl,hb5⟩;obtain ⟨er,her⟩:∃ er,faultC (bareR acc) l=er:=⟨_,rfl⟩;rw [her];obtain ⟨e0,e1,e2,e3,e4,e5,ez⟩:=blk6 hb5 (by rw [H4.out.2.2];omega) H4.out.2.1;by_cases her0:er=0
     ·have hown5:=Zk hown4 hb5;have hbel5:=Za hbel4 hb5;have hB5:w1.heap.size≤w5.heap.size:=hbel5.size;have HX:Hid (rd s=rdC (k+1) (bareR (acc++[({l with place:=k+1},.slice ko nk kc,.slice vo2 m5 vc2)])) (ps.drop (k+1))):=by
       show _=_;rw [HS.out.1,HD.out,Zif HF0.out (by rw [HF.out.2.2.1];exact HL.out) (by rw [her,her0])];simp [bareR]
      have HV5:Hid ((∀ p∈acc,RSv w5 p)∧RSv w5 ({l with place:=k+1},.slice ko nk kc,.slice vo2 m5 vc2)):=⟨fun q hq=>(HV.out.1 q hq).nx hb5,HV.out.2.nx hb5⟩;subst her0;clear hown4 hbel4 hb5 her HV;go_wp2_with (at_builtin;refine wpList_append_own _ rfl (.tmp 44) (.tmp 46) 116 rfl w1.heap.size 122 t0 _ 6 104 Tryz.underlying116 hi hz0 hz1 hz2 rfl (by decide) _ _ _ rfl (hown5.alloc _) ⟨w5.heap.size,0,none⟩ 1 1 [.string kw,.string l.name,.string l.frm,.slice ko nk kc,.slice vo2 m5 vc2,.int .i64 ((k:Int)+1)] rfl rfl (Zo w5 [.string kw,.string l.name,.string l.frm,.slice ko nk kc,.slice vo2 m5 vc2,.int .i64 ((k:Int)+1)] 122 rfl) ?c2 ?c3 ?c4 ?c5 ?next)
      case c2=>intro u hu;simp at hu;rcases hu with rfl | rfl | rfl | rfl | rfl | rfl <;> rfl
      case c3=>unfold maxLen;omega
      case c4=>omega
      case c5=>simp;omega
      case next =>
       intro v' w6 hown' hgrow _;have R:w6.ownsRow w1.heap.size 122 6 v' (m+1) (flatR (acc++[({l with place:=k+1},.slice ko nk kc,.slice vo2 m5 vc2)]))∧Below w1.heap.size w1 w6∧∀ p∈acc++[({l with place:=k+1},.slice ko nk kc,.slice vo2 m5 vc2)],RSv w6 p:=by
        refine ⟨by rw [Zcv];simp only [flatR];rw [HKW.out];exact hown',(hbel5.alloc hB5 _).grown hgrow (by simp;omega) (fun g hg=>(hown5.lt g hg).1),?_⟩;intro q hq;have hq3:RSv w5 q:=by
         rcases List.mem_append.1 hq with h | h
         ·exact HV5.out.1 q h
         ·simp at h;subst h;exact HV5.out.2
        exact (hq3.nx (Zb _ _)).grown hgrow (Zq (hown5.alloc _))
       clear hown' hgrow hown5 hbel5;go_wp2_with fail
       go_roundw
       case rel=>exact ⟨k+1,m+1,acc++[({l with place:=k+1},.slice ko nk kc,.slice vo2 m5 vc2)],by omega,by go_num,by omega,⟨HX.out,by simp [HS.out.2.1],R.2.2⟩,R.1,R.2.1⟩
       case measure=>simp [intOf];omega
     ·have HX:Hid ((rd s).err=er∧(rd s).at'=k+1∧Below w.heap.size w w5∧er≠0):=by
       have e:rd s=⟨[],er,k+1⟩:=by
        rw [HS.out.1,HD.out,ZiQ HF0.out (by rw [HF.out.2.2.1];exact HL.out) (by rw [her];exact her0),her]
       refine ⟨by rw [e],by rw [e],Za HB1.out (Za hbel4 hb5),her0⟩
      have herb:((er:Int) != 0)=true:=by rw [bne_iff_ne];omega
      clear hown4 hbel4 hb5 her her0;go_wp2_with fail
      go_ret3
      refine .inl ⟨by rw [HX.out.1];exact HX.out.2.2.2,?_,HX.out.2.2.1⟩;exact ZaI (by rw [HX.out.1]) (by rw [HX.out.2.1];omega) rfl
  ·have e0:ps.drop k=[]:=List.drop_of_length_le (by rw [HP.out.2.1];omega);obtain rfl:k=n:=by omega
   have hrr:rd s=rdC k (bareR acc) []:=by rw [HS.out.1,e0]
   rw [rdC] at hrr;by_cases hm0:m=0
   ·have HX:Hid (rd s=⟨[],2,k⟩∧Below w.heap.size w wr):=⟨by rw [hrr,if_pos (by simp [bareR,HS.out.2.1,hm0])],Za HB1.out hbel⟩;subst hm0;clear hrr e0 hown hbel;go_wp2_with fail
    go_ret3
    exact .inl ⟨by rw [HX.out.1];exact (by decide:(2:Nat)≠0),ZaI (by rw [HX.out.1];rfl) (by rw [HX.out.1]) rfl,HX.out.2⟩
   ·have HX:Hid (rd s=⟨bareR acc,0,0⟩∧Below w.heap.size w wr∧RLinesAt wr (.slice vo m vc) acc∧acc.length=m):=
     ⟨by rw [hrr,if_neg (by simp [bareR,HS.out.2.1,hm0])],Za HB1.out hbel,⟨by rw [HS.out.2.1];exact Zd hown,fun q hq=>(HS.out.2.2 q hq).1⟩,HS.out.2.1⟩
    have hm0b:((m:Int) == 0)=false:=by simp;omega
    clear hrr e0 hown hbel;go_wp2_with fail
    go_ret3
    refine .inr ⟨acc,vo,vc,by rw [HX.out.1],by rw [HX.out.1],by rw [HX.out.2.2.2];omega,by rw [HX.out.2.2.2];omega,ZaI rfl rfl (by rw [HX.out.2.2.2]),?_,HX.out.2.1⟩;rw [HX.out.2.2.2];exact HX.out.2.2.1
theorem Zeo:∀ (L:List Ln) (kind:Nat) (name:ByteArray) (k:Nat),(findC L kind name=none∧idxN L kind name k=-1)∨(∃ j l,findC L kind name=some l∧L[j]?=some l∧idxN L kind name k=((k+j:Nat):Int))
 | [],kind,name,k=>.inl ⟨rfl,rfl⟩
 | l :: r,kind,name,k=>by
  unfold findC;rw [idxN,List.find?_cons];by_cases h:hitC kind name l=true
  ·have h':((l.kind == kind)&&(l.name.toList == name.toList))=true:=h;rw [if_pos h,h'];exact .inr ⟨0,l,rfl,rfl,rfl⟩
  ·have h1:hitC kind name l=false:=by simpa using h
   have h':((l.kind == kind)&&(l.name.toList == name.toList))=false:=h1;rw [if_neg h,h'];rcases Zeo r kind name (k+1) with ⟨a,b⟩ | ⟨j,l',a,b,c⟩
   ·exact .inl ⟨a,b⟩
   ·exact .inr ⟨j+1,l',a,by simpa using b,by rw [c];congr 1;omega⟩
def chI (L:List Ln):Nat→Nat→List Nat
 | 0,_=>[]
 | f+1,i=>match L[i]? with
  | none=>[]
  | some l=>if l.frm.toList.isEmpty=true then [] else (idxN L 2 l.frm 0).toNat :: chI L f (idxN L 2 l.frm 0).toNat
def AllB (L:List Ln):Prop:=∀ l∈L,baC L l.frm=true
theorem ZcP (all:List Ln):∀ L:List Ln,noC all L=none→∀ l∈L,baC all l.frm=true
 | [],_,l,h=>by simp at h
 | p :: r,hn,l,h=>by
  rw [noC] at hn;split at hn
  ·rename_i hb
   rcases List.mem_cons.1 h with h | h
   ·subst h;exact hb
   ·exact ZcP all r hn l h
  ·cases hn
theorem Zeb {L:List Ln} (hb:AllB L) {i:Nat} {l:Ln} (hl:L[i]?=some l) (he:l.frm.toList.isEmpty=false):∃ (j:Nat) (l':Ln),findC L 2 l.frm=some l'∧L[j]?=some l'∧idxN L 2 l.frm 0=(j:Int)∧j<L.length:=by
 have h:=hb l (List.mem_of_getElem? hl);rw [baC,he,Bool.false_or] at h;rcases Zeo L 2 l.frm 0 with ⟨a,_⟩ | ⟨j,l',a,b,c⟩
 ·rw [a] at h;cases h
 ·exact ⟨j,l',a,b,by rw [c];congr 1;omega,(List.getElem?_eq_some_iff.1 b).1⟩
theorem Zdb {L:List Ln} {f i:Nat} {l:Ln} (hl:L[i]?=some l) (he:l.frm.toList.isEmpty=true):chI L f i=[]:=by
 cases f with
 | zero=>rfl
 | succ f=>rw [chI,hl];simp only;rw [if_pos he]
theorem ZfC {L:List Ln} {f i j:Nat} {l:Ln} (hl:L[i]?=some l) (he:l.frm.toList.isEmpty=false) (hj:idxN L 2 l.frm 0=(j:Int)):chI L (f+1) i=j :: chI L f j:=by
 rw [chI,hl];simp only;rw [if_neg (by simp [he]),hj];rfl
theorem Zil {L:List Ln} (hb:AllB L):∀ (f i:Nat),∀ j∈chI L f i,j<L.length
 | 0,_,j,h=>by simp [chI] at h
 | f+1,i,j,h=>by
  cases hl:L[i]? with
  | none=>rw [chI,hl] at h;simp at h
  | some l =>
   cases he:l.frm.toList.isEmpty
   ·obtain ⟨j',l',_,hj',hx,hlt⟩:=Zeb hb hl he;rw [ZfC hl he hx] at h;rcases List.mem_cons.1 h with h | h
    ·omega
    ·exact Zil hb f j' j h
   ·rw [Zdb hl he] at h;simp at h
theorem ZcM (L:List Ln):∀ (f i:Nat),(chI L f i).length≤f
 | 0,_=>by simp [chI]
 | f+1,i=>by
  rw [chI];split
  ·simp
  ·split
   ·simp
   ·have:=ZcM L f (idxN L 2 (by assumption:Ln).frm 0).toNat;simp;omega
theorem Zgf (a b:List Nat):ints (a++b)=ints a++ints b:=by simp [ints]
theorem Zi6 (a:List Nat):(ints a).length=a.length:=by simp [ints]
theorem Zcq (i0 nn:Nat) (ao:Option Addr) (cap m:Nat) (ls:List RL) (w:World) (hl:RLinesAt w (.slice ao m cap) ls) (hm:ls.length=m) (hm1:m≤1001) (hi0:i0<m) (hnn:nn≤1002) (hb:AllB (bareR ls)) :
  Calls Tryz.prog 101 #[.slice ao m cap,.int .i64 (i0:Int),.int .i64 (nn:Int)] w fun e w'=>∃ co cc,e=.returned (.slice co (chI (bareR ls) nn i0).length cc)∧w'.ownsRow w.heap.size 3 1 (.slice co (chI (bareR ls) nn i0).length cc) (chI (bareR ls) nn i0).length (ints (chI (bareR ls) nn i0))∧Below w.heap.size w w':=by
 obtain ⟨t0,hi,hz0,hz1,hz2⟩:=info_parts Zc5;have HL:Hid (RLinesAt w (.slice ao m cap) ls∧ls.length=m∧AllB (bareR ls)):=⟨hl,hm,hb⟩;obtain ⟨R,hR⟩:∃ R,chI (bareR ls) nn i0=R:=⟨_,rfl⟩;rw [hR];have HR:=hideIt hR;clear hl hm hb hR;go_enter Tryz.func101,Tryz.ntmps101
 go_wp2_with fail
 go_loopw [1,7] (fun iv v wr=>∃ (i q:Nat) (js:List Nat) (vo:Option Addr) (vc:Nat),iv=.int .i64 i∧v=.slice vo q vc∧i<m∧q≤nn∧Hid (R=js++chI (bareR ls) (nn - q) i∧js.length=q)∧wr.ownsRow w.heap.size 3 1 (.slice vo q vc) q (ints js)∧Below w.heap.size w wr) (fun _ v _=>nn - lenOf v)
 case atStart=>exact ⟨i0,0,[],none,0,rfl,rfl,hi0,Nat.zero_le _,⟨by rw [←HR.out];rfl,rfl⟩,World.ownsRow_nil _ _ _ _,Below.refl _ _⟩
 case round =>
  obtain ⟨i,q,js,vo,vc,rfl,rfl,him,hq,HS,hown,hbel⟩:=hrel;by_cases hlt:q<nn
  ·obtain ⟨⟨l,kv,vv⟩,hp⟩:∃ p,ls[i]?=some p:=⟨_,List.getElem?_eq_getElem (by rw [HL.out.2.1];exact him)⟩;obtain ⟨bl,off,ko,kc,vo',vc',hao,hbl,_,_,_,_,c0,c1,c2,c3,c4,c5⟩:=(HL.out.1.nx hbel).at hp;have hpl:=ZY hp;have hlti:(q:Int)<(nn:Int):=by omega
   have himi:(i:Int)<(m:Int):=by omega
   subst hao;cases hfe:l.frm.toList.isEmpty
   ·obtain ⟨j,l',hj1,hj2,hj3,hj4⟩:=Zeb HL.out.2.2 hpl hfe;have hjm:j<m:=by rw [ZM,HL.out.2.1] at hj4;exact hj4
    have HX:Hid (R=(js++[j])++chI (bareR ls) (nn - (q+1)) j):=by
     show _=_;obtain ⟨f,hf⟩:∃ f,nn - q=f+1:=⟨nn - q - 1,by omega⟩;have hf2:nn - (q+1)=f:=by omega
     rw [HS.out.1,hf,ZfC hpl hfe hj3,hf2,List.append_assoc];rfl
    have HFD:=hideIt (ZgM l.frm (some ⟨bl,off,none⟩) cap m ls wr (HL.out.1.nx hbel) HL.out.2.1 hm1);rw [hj3] at HFD;have hB:w.heap.size≤wr.heap.size:=hbel.size;clear hp hpl hj1 hj2 hj3 hj4;go_wp2_with fail
    refine HFD.out.mono ?_;rintro e w2 ⟨rfl,hw⟩;rw [hw];clear hw;go_wp2_with (at_builtin;refine wpList_append_own _ rfl (.tmp 27) (.tmp 29) 120 rfl w.heap.size 3 t0 _ 1 8 Tryz.underlying120 hi hz0 hz1 hz2 rfl (by decide) _ _ _ rfl (hown.alloc _) ⟨wr.heap.size,0,none⟩ 1 1 [.int .i64 (j:Int)] rfl rfl (Zo wr [.int .i64 (j:Int)] 3 rfl) (by intro u hu;simp at hu;subst hu;rfl) (by unfold maxLen;omega) (by omega) (by simp;omega) ?next)
    case next =>
     intro v' w6 hown' hgrow _;obtain ⟨vo6,vc6,hv6,_⟩:=Zd hown';subst hv6;have RR:w6.ownsRow w.heap.size 3 1 (.slice vo6 (q+1) vc6) (q+1) (ints (js++[j]))∧Below w.heap.size w w6:=
      ⟨by rw [Zgf];exact hown',(hbel.alloc hB _).grown hgrow (by simp;omega) (fun g hg=>(hown.lt g hg).1)⟩
     clear hown' hgrow hown hbel;go_wp2_with fail
     go_roundw
     case rel=>exact ⟨j,q+1,js++[j],vo6,vc6,rfl,rfl,hjm,by omega,⟨HX.out,by simp [HS.out.2]⟩,RR.1,RR.2⟩
     case measure=>simp [lenOf];omega
   ·have HX:Hid (R=js):=by show _=_;rw [HS.out.1,Zdb hpl hfe];simp
    clear hp hpl;go_wp2_with fail
    go_ret
    exact ⟨vo,vc,Za3 (by rw [HX.out,HS.out.2]),by rw [HX.out,HS.out.2];exact hown,hbel⟩
  ·have HX:Hid (R=js):=by
    show _=_;have:nn - q=0:=by omega
    rw [HS.out.1,this];simp [chI]
   have hlti:¬(q:Int)<(nn:Int):=by omega
   go_wp2_with fail
   go_ret
   exact ⟨vo,vc,Za3 (by rw [HX.out,HS.out.2]),by rw [HX.out,HS.out.2];exact hown,hbel⟩
def fK (ps:List (Nat×Nat)) (k:Nat):Option Nat:=(ps.find? fun p=>p.1 == k).map (·.2)
theorem ZkC {ps:List (Nat×Nat)} {k j a b:Nat} (hd:ps.drop j=(a,b) :: ps.drop (j+1)) (hs:fK (ps.drop j) k=fK ps k) (h:a=k):fK ps k=some b:=by
 rw [←hs,hd,fK,List.find?_cons];simp [h]
theorem Zkc {ps:List (Nat×Nat)} {k j a b:Nat} (hd:ps.drop j=(a,b) :: ps.drop (j+1)) (hs:fK (ps.drop j) k=fK ps k) (h:¬a=k):fK (ps.drop (j+1)) k=fK ps k:=by
 have hh:(a == k)=false:=by simpa using h
 rw [←hs,hd,fK,fK,List.find?_cons];simp only [hh]
def pairsOf (l:Ln):List (Nat×Nat):=if l.kind=1 then [] else l.sets
theorem Zds (l:Ln):keysOf l=(pairsOf l).map (·.1):=by
 unfold keysOf pairsOf;split <;> rfl
theorem ZgW {l:Ln} {j a b:Nat} (h:(pairsOf l)[j]?=some (a,b)):(valsOf l)[j]?=some b:=by
 unfold pairsOf at h;split at h
 ·simp at h
 ·simp [valsOf,h]
theorem Zis (l:Ln):(pairsOf l).length=(keysOf l).length:=by rw [Zds,List.length_map]
theorem ZiZ (l:Ln):(pairsOf l).length≤l.sets.length:=by
 unfold pairsOf;split <;> simp
def vI (L:List Ln) (k:Nat):List Nat→Int
 | []=>plainN k
 | j :: r=>match (L[j]?).bind (fun l=>fK (pairsOf l) k) with | some n=>(n:Int) | none=>vI L k r
theorem Zck (i0 key:Nat) (ao:Option Addr) (cap m:Nat) (ls:List RL) (w:World) (hl:RLinesAt w (.slice ao m cap) ls) (hm:ls.length=m) (hm1:m≤1001) (hi0:i0<m) (hb:AllB (bareR ls)) (hsl:∀ l∈bareR ls,l.sets.length≤1001) :
  Calls Tryz.prog 61 #[.slice ao m cap,.int .i64 (i0:Int),.int .i64 (key:Int)] w fun e w'=>e=.returned (.int .i64 (vI (bareR ls) key (i0 :: chI (bareR ls) m i0)))∧Below w.heap.size w w':=by
 obtain ⟨t0,hi,hz0,hz1,hz2⟩:=info_parts Zc5;obtain ⟨W1,hW1⟩:∃ W1,W1=w.alloc (.cells #[.int .i64 (i0:Int)] 3):=⟨_,rfl⟩;have hb1:Below w.heap.size w W1:=by rw [hW1];exact Zb _ _
 have hown1:W1.ownsRow w.heap.size 3 1 (.slice (some ⟨w.heap.size,0,none⟩) 1 1) 1 (ints [i0]):=by
  rw [hW1];refine ⟨rfl,.inr ⟨w.heap.size,1,#[.int .i64 (i0:Int)],rfl,Nat.le_refl _,Zm _ _ rfl,Nat.le_refl _,?_,?_,?_⟩⟩;all_goals first | rfl | simp [maxLen] | (unfold maxLen;omega)
 have HCH:=hideIt (Zcq i0 m ao cap m ls W1 (hl.nx hb1) hm hm1 hi0 (by omega) hb);have hcl:=ZcM (bareR ls) m i0;obtain ⟨ch,hch⟩:∃ ch,chI (bareR ls) m i0=ch:=⟨_,rfl⟩;rw [hch] at HCH hcl;rw [hch];have HW:Hid (W1=w.alloc (.cells #[.int .i64 (i0:Int)] 3)∧Below w.heap.size w W1∧W1.ownsRow w.heap.size 3 1 (.slice (some ⟨w.heap.size,0,none⟩) 1 1) 1 (ints [i0])∧W1.heap.size=w.heap.size+1):=⟨hW1,hb1,hown1,by rw [hW1];simp⟩;have HL:Hid (RLinesAt w (.slice ao m cap) ls∧ls.length=m∧(∀ l∈bareR ls,l.sets.length≤1001)∧∀ j∈i0 :: ch,j<m):=⟨hl,hm,hsl,by
  intro j hj;rcases List.mem_cons.1 hj with h | h
  ·rw [h];exact hi0
  ·have:=Zil hb m i0 j (by rw [hch];exact h);rw [ZM,hm] at this;exact this⟩
 have HPL:=hideIt (ZhE key);clear hl hm hb hsl hW1 hb1 hown1 hch hi0;obtain ⟨R,hR⟩:∃ R,vI (bareR ls) key (i0 :: ch)=R:=⟨_,rfl⟩;rw [hR];have HR:=hideIt hR;clear hR;go_enter Tryz.func61,Tryz.ntmps61
 go_upto_region 2 with fail
 rw [←HW.out.1];go_cut [7] (fun v wc=>∃ (vo:Option Addr) (n2 vc:Nat),v=.slice vo n2 vc∧n2≤1002∧Hid (RowAt wc (.slice vo n2 vc) n2 (ints (i0 :: ch))∧(i0 :: ch).length=n2∧Below w.heap.size w wc))
 case first =>
  go_wp2_with fail
  refine HCH.out.mono ?_;rintro e w2 ⟨co,cc,rfl,hown2,hb2⟩;obtain ⟨q,hq⟩:∃ q,ch.length=q:=⟨_,rfl⟩;rw [hq] at hown2 hcl ⊢;have hown12:=Zk HW.out.2.2.1 hb2;have hB:w.heap.size≤w2.heap.size:=Nat.le_trans HW.out.2.1.size hb2.size;have hbel2:=Za HW.out.2.1 hb2;rcases hown2.2 with ⟨hv,hx⟩ | ⟨g,cap',cur,hv,hbg,hg,_⟩
  ·have hq0:q=0:=by simp only [Value.slice.injEq] at hv;omega
   have HC:Hid (ch=[]):=List.eq_nil_of_length_eq_zero (by rw [hq,hq0]);rw [hv];clear hq hown2 hv hx hq0;go_wp2_with fail
   go_meet
   exact ⟨_,1,1,rfl,by omega,by rw [HC.out];exact Zd hown12,by rw [HC.out];rfl,hbel2⟩
  ·have hcells:=hown2.cells (g:=g) (by rw [hv];rfl);rw [hv];have hvl:=hv;simp only [Value.slice.injEq] at hvl;have HQ:=hideIt hq;clear hq hg hvl hv;go_wp2_with (at_builtin;refine wpList_append_own _ rfl (.tmp 13) (.tmp 18) 120 rfl w.heap.size 3 t0 _ 1 8 Tryz.underlying120 hi hz0 hz1 hz2 rfl (by decide) _ _ _ rfl hown12 ⟨g,0,none⟩ q cap' (ints ch) rfl (by rw [Zi6,HQ.out];omega) hcells (by intro u hu;obtain ⟨x,_,rfl⟩:=List.mem_map.1 hu;rfl) (by unfold maxLen;omega) (by omega) hB ?next)
   case next =>
    intro v' w6 hown' hgrow _;obtain ⟨vo6,vc6,hv6,_⟩:=Zd hown';subst hv6;have HX:Hid (RowAt w6 (.slice vo6 (1+q) vc6) (1+q) (ints (i0 :: ch))∧(i0 :: ch).length=1+q∧Below w.heap.size w w6):=
     ⟨Zd hown',by simp [HQ.out];omega,hbel2.grown hgrow hB (fun g hg=>(hown12.lt g hg).1)⟩
    clear hown' hgrow hown12 hbel2 hcells;go_wp2_with fail
    go_meet
    exact ⟨vo6,1+q,vc6,rfl,by omega,HX.out⟩
 case rest =>
  obtain ⟨vo,n2,vc,rfl,hn2,HV⟩:=hcut;obtain ⟨al,hal⟩:∃ al,i0 :: ch=al:=⟨_,rfl⟩;rw [hal] at HV HR HL;clear hal HCH HW hcl;go_wp2_with fail
  go_loopw [8] (fun c wr=>∃ (k:Nat),k≤n2∧c=.int .i64 k∧Hid (vI (bareR ls) key (al.drop k)=R)∧Hid (Below w.heap.size w wr∧RowAt wr (.slice vo n2 vc) n2 (ints al))) (fun c _=>n2 - (intOf c).toNat)
  case atStart=>exact ⟨0,Nat.zero_le _,rfl,HR.out,HV.out.2.2,HV.out.1⟩
  case round =>
   obtain ⟨k,hk,rfl,HS,HBW⟩:=hrel;by_cases hlt:k<n2
   ·obtain ⟨a,ha⟩:∃ a,al[k]?=some a:=⟨_,List.getElem?_eq_getElem (by rw [HV.out.2.1];exact hlt)⟩;obtain ⟨bl,off,hvo,hbl,hca⟩:=Z6 HBW.out.2 ha;have ham:a<m:=HL.out.2.2.2 a (List.mem_of_getElem? ha);obtain ⟨⟨l,kv,vv⟩,hp⟩:∃ p,ls[a]?=some p:=⟨_,List.getElem?_eq_getElem (by rw [HL.out.2.1];exact ham)⟩;obtain ⟨bl2,off2,ko,kc,vo2,vc2,hao,hbl2,_,_,hrk,hrv,c0,c1,c2,c3,c4,c5⟩:=(HL.out.1.nx HBW.out.1).at hp;have hsl1:l.sets.length≤1001:=HL.out.2.2.1 _ (List.mem_of_getElem? (ZY hp));have HD:Hid (vI (bareR ls) key (al.drop k)=match fK (pairsOf l) key with | some n=>(n:Int) | none=>vI (bareR ls) key (al.drop (k+1))):=by
     show _=_;rw [Zy ha,vI,ZY hp];rfl
    obtain ⟨ps,hps⟩:∃ ps,pairsOf l=ps:=⟨_,rfl⟩;rw [hps] at HD;have hlk:(keysOf l).length=ps.length:=by rw [←hps,Zis]
    have hlv:ps.length≤l.sets.length:=by rw [←hps];exact ZiZ l
    rw [hlk] at hrk c3;rw [Zds,hps] at hrk;obtain ⟨np,hnp⟩:∃ np,ps.length=np:=⟨_,rfl⟩;obtain ⟨nv,hnv⟩:∃ nv,l.sets.length=nv:=⟨_,rfl⟩;rw [hnp] at hrk c3 hlv;rw [hnv] at hrv c4 hlv hsl1;have hlti:(k:Int)<(n2:Int):=by omega
    have hami:(a:Int)<(m:Int):=by omega
    obtain ⟨lw,hlw⟩:∃ lw,kwK l.kind=lw:=⟨_,rfl⟩;rw [hlw] at c0;obtain ⟨W2,hW2⟩:∃ W2,W2=wr.alloc (bRL lw l.name l.frm ko np kc vo2 nv vc2 (l.place:Int)):=⟨_,rfl⟩;have hb2:Below wr.heap.size wr W2:=by rw [hW2];exact Zb _ _
    have HP:Hid (RowAt W2 (.slice ko np kc) np (ints (ps.map (·.1)))∧RowAt W2 (.slice vo2 nv vc2) nv (ints (valsOf l))∧ps.length=np∧pairsOf l=ps∧Below w.heap.size w W2∧RowAt W2 (.slice vo n2 vc) n2 (ints al)):=
     ⟨hrk.nx hb2,hrv.nx hb2,hnp,hps,Za HBW.out.1 hb2,HBW.out.2.nx hb2⟩
    have H2:Hid (W2=wr.alloc (bRL lw l.name l.frm ko np kc vo2 nv vc2 (l.place:Int))):=hW2;obtain ⟨e0,e1,e2,e3,e4,e5,ez⟩:=blk6 (Below.refl W2.heap.size W2) (g:=wr.heap.size) (by rw [hW2];simp) (by rw [hW2];exact Zm _ _ rfl);subst hvo hao;clear ha hp hrk hrv hps hlk hnp hnv hlw hb2 hW2;go_wp2_with fail
    rw [←H2.out];clear c0 c1 c2 c3 c4 c5 hca;go_loop [10] (fun jv=>∃ (j:Nat),j≤np∧jv=.int .i64 j∧Hid (fK (ps.drop j) key=fK ps key)) (fun jv=>np - (intOf jv).toNat)
    case atStart=>exact ⟨0,Nat.zero_le _,rfl,rfl⟩
    case round =>
     obtain ⟨j,hj,rfl,HJ⟩:=hrel;by_cases hjl:j<np
     ·obtain ⟨⟨x,y⟩,hxy⟩:∃ p,ps[j]?=some p:=⟨_,List.getElem?_eq_getElem (by rw [HP.out.2.2.1];exact hjl)⟩;obtain ⟨bl3,off3,hko,hbl3,hcx⟩:=Z6 HP.out.1 (show (ps.map (·.1))[j]?=some x by simp [hxy]);obtain ⟨bl4,off4,hvo2,hbl4,hcy⟩:=Z6 HP.out.2.1 (ZgW (show (pairsOf l)[j]?=some (x,y) by rw [HP.out.2.2.2.1];exact hxy));have HDJ:Hid (ps.drop j=(x,y) :: ps.drop (j+1)):=Zy hxy;have hjli:(j:Int)<(np:Int):=by omega
      have hjlv:(j:Int)<(nv:Int):=by omega
      subst hko hvo2;clear hxy;by_cases hxk:x=key
      ·have hxb:((x:Int) == (key:Int))=true:=by simp [hxk]
       have HX:Hid ((y:Int)=R):=by
        show _=_;rw [←HS.out,HD.out,ZkC HDJ.out HJ.out hxk]
       clear hxk;go_wp2_with fail
       go_ret
       exact ⟨Zt HX.out,HP.out.2.2.2.2.1⟩
      ·have hxb:((x:Int) == (key:Int))=false:=by simp;omega
       have HX:=hideIt (Zkc HDJ.out HJ.out hxk);clear hxk;go_wp2_with fail
       go_round
       case rel=>exact ⟨j+1,by omega,by go_num,HX.out⟩
       case measure=>simp [intOf];omega
     ·have HX:Hid (vI (bareR ls) key (al.drop (k+1))=R):=by
       show _=_;have e:fK ps key=none:=by
        rw [←HJ.out,List.drop_of_length_le (by rw [HP.out.2.2.1];omega)];rfl
       rw [←HS.out,HD.out,e]
      go_wp2_with fail
      go_roundw
      case rel=>exact ⟨k+1,by omega,by go_num,HX.out,HP.out.2.2.2.2.1,HP.out.2.2.2.2.2⟩
      case measure=>simp [intOf];omega
   ·have HX:Hid (plainN key=R):=by
     show _=_;rw [←HS.out,List.drop_of_length_le (by rw [HV.out.2.1];omega)];rfl
    have HB:Hid (Below w.heap.size w wr):=HBW.out.1;go_wp2_with fail
    refine (HPL.out _).mono ?_;rintro e w2 ⟨rfl,hw⟩;rw [hw];clear hw;go_wp2_with fail
    go_ret
    exact ⟨Zt HX.out,HB.out⟩
def lonI (L:List Ln) (f most:Nat):Nat→List Ln→Option Nat
 | _,[]=>none
 | k,l :: r=>if most<(chI L f k).length then some l.place else lonI L f most (k+1) r
def chER (L:List Ln):Nat×Nat:=
 match noC L L with
 | some k=>(6,k)
 | none=>match lonI L (L.length+1) L.length 0 L with
  | some k=>(7,k)
  | none=>match lonI L L.length 3 0 L with
   | some k=>(8,k)
   | none=>(0,0)
theorem Zib (ao:Option Addr) (cap n:Nat) (ls:List RL) (w:World) (hl:RLinesAt w (.slice ao n cap) ls) (hn:ls.length=n) (hn1:n≤1001) :
  Calls Tryz.prog 60 #[.slice ao n cap] w fun e w'=>e=.returned (.tuple #[.int .i64 (chER (bareR ls)).1,.int .i64 (chER (bareR ls)).2])∧Below w.heap.size w w':=by
 obtain ⟨L,hL⟩:∃ L,bareR ls=L:=⟨_,rfl⟩;have HL:Hid (RLinesAt w (.slice ao n cap) ls∧ls.length=n∧bareR ls=L∧L.length=n):=⟨hl,hn,hL,by rw [←hL,ZM,hn]⟩;rw [hL];clear hl hn hL;go_enter Tryz.func60,Tryz.ntmps60
 go_wp2_with fail
 go_loop [4] (fun i=>∃ (k:Nat),k≤n∧i=.int .i64 k∧Hid (noC L (L.drop k)=noC L L)) (fun i=>n - (intOf i).toNat)
 case atStart=>exact ⟨0,Nat.zero_le _,rfl,rfl⟩
 case round =>
  obtain ⟨k,hk,rfl,HS⟩:=hrel;by_cases hlt:k<n
  ·obtain ⟨⟨l,kv,vv⟩,hp⟩:∃ p,ls[k]?=some p:=⟨_,List.getElem?_eq_getElem (by rw [HL.out.2.1];exact hlt)⟩;obtain ⟨bl,off,ko,kc,vo,vc,hao,hbl,_,_,_,_,c0,c1,c2,c3,c4,c5⟩:=HL.out.1.at hp;have hpl:=ZY hp;rw [HL.out.2.2.1] at hpl;have HD:Hid (L.drop k=l :: L.drop (k+1)):=Zy hpl;have hlti:(k:Int)<(n:Int):=by omega
   have HFD:=hideIt (ZgM l.frm ao cap n ls w HL.out.1 HL.out.2.1 hn1);rw [HL.out.2.2.1] at HFD;subst hao;clear hp hpl c0 c1 c3 c4;cases hfe:l.frm.toList.isEmpty
   ·rcases Zeo L 2 l.frm 0 with ⟨ha,hx⟩ | ⟨j,l',ha,hj,hx⟩
    ·have HX:Hid (chER L=(6,l.place)):=by
      have e:noC L L=some l.place:=by rw [←HS.out,HD.out,noC,baC,hfe,ha];rfl
      show _=_;rw [chER,e]
     rw [hx] at HFD;clear ha hx;go_wp2_with fail
     refine HFD.out.mono ?_;rintro e w2 ⟨rfl,hw⟩;rw [hw];clear hw;go_wp2_with fail
     go_quiet (fail)
     go_wp2_with fail
     go_ret2
     exact ⟨ZaL (by rw [HX.out];rfl) (by rw [HX.out]),below_drewN (Below.refl _ _) _⟩
    ·have HX:Hid (noC L (L.drop (k+1))=noC L L):=by
      show _=_;rw [←HS.out,HD.out,noC,baC,hfe,ha];rfl
     rw [hx] at HFD;obtain ⟨jj,hjj⟩:∃ jj,0+j=jj:=⟨_,rfl⟩;rw [hjj] at HFD;have hjn:¬(jj:Int)<0:=by omega
     clear ha hx hj hjj;go_wp2_with fail
     refine HFD.out.mono ?_;rintro e w2 ⟨rfl,hw⟩;rw [hw];clear hw;go_wp2_with fail
     go_round
     case rel=>exact ⟨k+1,by omega,by go_num,HX.out⟩
     case measure=>simp [intOf];omega
   ·have HX:Hid (noC L (L.drop (k+1))=noC L L):=by
     show _=_;rw [←HS.out,HD.out,noC,baC,hfe];rfl
    go_wp2_with fail
    go_round
    case rel=>exact ⟨k+1,by omega,by go_num,HX.out⟩
    case measure=>simp [intOf];omega
  ·have HN:Hid (noC L L=none∧AllB L):=by
    have e:noC L L=none:=by rw [←HS.out,List.drop_of_length_le (by rw [HL.out.2.2.2];omega)];rfl
    exact ⟨e,ZcP L L e⟩
   have HE:Hid (chER L=match lonI L (n+1) n 0 L with
     | some k=>(7,k)
     | none=>match lonI L n 3 0 L with
      | some k=>(8,k)
      | none=>(0,0)):=by
    show _=_;rw [chER,HN.out.1,HL.out.2.2.2]
   clear HS;go_wp2_with fail
   go_loopw [6] (fun i wr=>∃ (k:Nat),k≤n∧i=.int .i64 k∧Hid (lonI L (n+1) n k (L.drop k)=lonI L (n+1) n 0 L)∧Below w.heap.size w wr) (fun i _=>n - (intOf i).toNat)
   case atStart=>exact ⟨0,Nat.zero_le _,rfl,rfl,Below.refl _ _⟩
   case round =>
    obtain ⟨k,hk,rfl,HS,hbel⟩:=hrel;by_cases hlt:k<n
    ·obtain ⟨⟨l,kv,vv⟩,hp⟩:∃ p,ls[k]?=some p:=⟨_,List.getElem?_eq_getElem (by rw [HL.out.2.1];exact hlt)⟩;obtain ⟨bl,off,ko,kc,vo,vc,hao,hbl,_,_,_,_,c0,c1,c2,c3,c4,c5⟩:=(HL.out.1.nx hbel).at hp;have hpl:=ZY hp;rw [HL.out.2.2.1] at hpl;have HD:Hid (L.drop k=l :: L.drop (k+1)):=Zy hpl;have hlti:(k:Int)<(n:Int):=by omega
     have HCH:=hideIt (Zcq k (n+1) ao cap n ls wr (HL.out.1.nx hbel) HL.out.2.1 hn1 hlt (by omega) (by rw [HL.out.2.2.1];exact HN.out.2));rw [HL.out.2.2.1] at HCH;have hci:((n+1:Nat):Int)=(n:Int)+1:=by omega
     rw [hci] at HCH;obtain ⟨q,hq⟩:∃ q,(chI L (n+1) k).length=q:=⟨_,rfl⟩;have hql:q≤n+1:=by rw [←hq];exact ZcM _ _ _
     rw [hq] at HCH;have HQ:=hideIt hq;subst hao;clear hp hpl c0 c1 c2 c3 c4 hci hq;go_wp2_with fail
     refine HCH.out.mono ?_;rintro e w2 ⟨co,cc,rfl,_,hb2⟩;have d5:w2.cell? ⟨bl,off+k*6+5,none⟩=some (.int .i64 (l.place:Int)):=(hb2.cell (p:=⟨bl,off+k*6+5,none⟩) hbl).trans c5;have HB:Hid (Below w.heap.size w w2):=Za hbel hb2;by_cases hmq:n<q
     ·have HX:Hid (chER L=(7,l.place)):=by
       have e:lonI L (n+1) n 0 L=some l.place:=by rw [←HS.out,HD.out,lonI,HQ.out,if_pos hmq]
       show _=_;rw [HE.out,e]
      clear hb2 hbel c5;go_wp2_with fail
      go_quiet (fail)
      go_wp2_with fail
      go_ret2
      exact ⟨ZaL (by rw [HX.out];rfl) (by rw [HX.out]),below_drewN HB.out _⟩
     ·have HX:Hid (lonI L (n+1) n (k+1) (L.drop (k+1))=lonI L (n+1) n 0 L):=by
       show _=_;rw [←HS.out,HD.out,lonI,HQ.out,if_neg hmq]
      have hmqi:¬(n:Int)<(q:Int):=by omega
      clear hb2 hbel c5;go_wp2_with fail
      go_roundw
      case rel=>exact ⟨k+1,by omega,by go_num,HX.out,HB.out⟩
      case measure=>simp [intOf];omega
    ·have HE2:Hid (chER L=match lonI L n 3 0 L with
       | some k=>(8,k)
       | none=>(0,0)):=by
      have e:lonI L (n+1) n 0 L=none:=by rw [←HS.out,List.drop_of_length_le (by rw [HL.out.2.2.2];omega)];rfl
      show _=_;rw [HE.out,e]
     have HB0:=hideIt hbel;clear HS hbel HE;go_wp2_with fail
     go_loopw [8] (fun i wr=>∃ (k:Nat),k≤n∧i=.int .i64 k∧Hid (lonI L n 3 k (L.drop k)=lonI L n 3 0 L)∧Below w.heap.size w wr) (fun i _=>n - (intOf i).toNat)
     case atStart=>exact ⟨0,Nat.zero_le _,rfl,rfl,HB0.out⟩
     case round =>
      obtain ⟨k,hk,rfl,HS,hbel⟩:=hrel;by_cases hlt:k<n
      ·obtain ⟨⟨l,kv,vv⟩,hp⟩:∃ p,ls[k]?=some p:=⟨_,List.getElem?_eq_getElem (by rw [HL.out.2.1];exact hlt)⟩;obtain ⟨bl,off,ko,kc,vo,vc,hao,hbl,_,_,_,_,c0,c1,c2,c3,c4,c5⟩:=(HL.out.1.nx hbel).at hp;have hpl:=ZY hp;rw [HL.out.2.2.1] at hpl;have HD:Hid (L.drop k=l :: L.drop (k+1)):=Zy hpl;have hlti:(k:Int)<(n:Int):=by omega
       have HCH:=hideIt (Zcq k n ao cap n ls wr (HL.out.1.nx hbel) HL.out.2.1 hn1 hlt (by omega) (by rw [HL.out.2.2.1];exact HN.out.2));rw [HL.out.2.2.1] at HCH;obtain ⟨q,hq⟩:∃ q,(chI L n k).length=q:=⟨_,rfl⟩;have hql:q≤n:=by rw [←hq];exact ZcM _ _ _
       rw [hq] at HCH;have HQ:=hideIt hq;subst hao;clear hp hpl c0 c1 c2 c3 c4 hq;go_wp2_with fail
       refine HCH.out.mono ?_;rintro e w2 ⟨co,cc,rfl,_,hb2⟩;have d5:w2.cell? ⟨bl,off+k*6+5,none⟩=some (.int .i64 (l.place:Int)):=(hb2.cell (p:=⟨bl,off+k*6+5,none⟩) hbl).trans c5;have HB:Hid (Below w.heap.size w w2):=Za hbel hb2;by_cases hmq:3<q
       ·have HX:Hid (chER L=(8,l.place)):=by
         have e:lonI L n 3 0 L=some l.place:=by rw [←HS.out,HD.out,lonI,HQ.out,if_pos hmq]
         show _=_;rw [HE2.out,e]
        have hmqi:(3:Int)<(q:Int):=by omega
        clear hb2 hbel c5;go_wp2_with fail
        go_quiet (fail)
        go_wp2_with fail
        go_ret2
        exact ⟨ZaL (by rw [HX.out];rfl) (by rw [HX.out]),below_drewN HB.out _⟩
       ·have HX:Hid (lonI L n 3 (k+1) (L.drop (k+1))=lonI L n 3 0 L):=by
         show _=_;rw [←HS.out,HD.out,lonI,HQ.out,if_neg hmq]
        have hmqi:¬(3:Int)<(q:Int):=by omega
        clear hb2 hbel c5;go_wp2_with fail
        go_roundw
        case rel=>exact ⟨k+1,by omega,by go_num,HX.out,HB.out⟩
        case measure=>simp [intOf];omega
      ·have HX:Hid (chER L=(0,0)):=by
        have e:lonI L n 3 0 L=none:=by rw [←HS.out,List.drop_of_length_le (by rw [HL.out.2.2.2];omega)];rfl
        show _=_;rw [HE2.out,e]
       have HB:=hideIt hbel;clear hbel;go_wp2_with fail
       go_ret2
       exact ⟨ZaL (by rw [HX.out];rfl) (by rw [HX.out];rfl),HB.out⟩
end Co
end Go.Proofs.YtcpikklofilkcaaGreat
